"""Mashes: malts in the grains, liquor and worts that go in, and worts that are drawn.

What the malts have, what was poured and given back is what was drawn, is solved and in the grains, malt by malt.
"""

from mashrunnings.errors import TooMuch
from mashrunnings.fractions import NOUGHT, ONE, is_under, less, over, plus
from mashrunnings.worts import shared_parts, summed_parts


class Mash:
    """One mash of malts, share of whose points are solved behind each liquor and each wort poured."""

    def __init__(self, malts, share, held):
        self.share = tuple(share)
        self.held = held
        self.gallons_in_it = NOUGHT
        # Both are kept as parts of a wort, which nobody can change, so they may be told and taken over as they are.
        self.solved_parts = ()
        self.grain_parts = summed_parts([(malt, (pounds * points, 1)) for malt, pounds, points in malts])

    def liquor(self, gallons):
        """So many gallons of water go in."""
        self.fill((gallons, 1), ())

    def pour(self, wort):
        """The wort goes in."""
        gallons, parts = wort
        self.fill(gallons, parts)

    def fill(self, gallons, parts):
        """Gallons and solved points go in, and share of what is in the grains is solved behind that."""
        coming = shared_parts(self.grain_parts, self.share)
        self.gallons_in_it = plus(self.gallons_in_it, gallons)
        self.solved_parts = summed_parts([*self.solved_parts, *parts, *coming])
        self.grain_parts = shared_parts(self.grain_parts, less(ONE, self.share))

    def draw(self, gallons):
        """A wort of so many gallons, with the like share of what is solved; refused with TooMuch."""
        if is_under(self.most_drawn(), gallons):
            raise TooMuch("the grains hold the rest back")
        # Nought of an empty mash is no share of it.
        share = NOUGHT if self.gallons_in_it == NOUGHT else over(gallons, self.gallons_in_it)
        drawn = (tuple(gallons), shared_parts(self.solved_parts, share))
        self.gallons_in_it = less(self.gallons_in_it, gallons)
        self.solved_parts = shared_parts(self.solved_parts, less(ONE, share))
        return drawn

    def most_drawn(self):
        """The gallons that can be drawn: what the grains don't hold back."""
        free = less(self.gallons_in_it, (self.held, 1))
        return NOUGHT if is_under(free, NOUGHT) else free

    def give_back(self, parts):
        """So many points more are in the grains, of any malts."""
        self.grain_parts = summed_parts([*self.grain_parts, *parts])

    def inside(self):
        """The gallons in it."""
        return self.gallons_in_it

    def solved(self):
        """What is solved: pairs (malt, points), rising, points above nought."""
        return list(self.solved_parts)

    def in_grains(self):
        """What is in the grains: pairs (malt, points), rising, points above nought."""
        return list(self.grain_parts)

    def twin_mash(self):
        """A mash of its own with the same in it."""
        twin = Mash([], self.share, self.held)
        twin.gallons_in_it = self.gallons_in_it
        twin.solved_parts = self.solved_parts
        twin.grain_parts = self.grain_parts
        return twin
