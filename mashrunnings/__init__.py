"""Mashrunnings: one mash drawn off to beers strong and small."""
