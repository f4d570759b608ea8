"""Tests of mashrunnings: see README.md for how to run them."""
