"""A cellar: all mashes, runnings, beers and casks that there ever were, and what is left in them."""

from mashrunnings.fractions import NOUGHT
from mashrunnings.worts import parted, summed_parts


class Cellar:
    """What deeds have made so far; runnings, beers and casks are known by (sort, name), and have a wort."""

    def __init__(self):
        self.mashes = {}
        self.worts_at_first = {}
        # None where nothing is left.
        self.worts_now = {}
        self.mash_by_running = {}
        self.parts_given = ()
        self.parts_spilt = ()
        self.worts_sold = []

    def was_there(self, sort, name):
        """Whether there ever was such a thing."""
        if sort == "mash":
            return name in self.mashes
        return (sort, name) in self.worts_at_first

    def names_of(self, sort):
        """The names of all of a sort that there ever were, rising."""
        if sort == "mash":
            return sorted(self.mashes)
        return sorted([name for own, name in self.worts_at_first if own == sort])

    def put(self, sort, name, wort):
        """This wort is what such a thing was at first, and what is left of it."""
        self.worts_at_first[(sort, name)] = wort
        self.worts_now[(sort, name)] = wort

    def gallons_left(self, sort, name):
        """The gallons that are left of a thing, a fraction."""
        wort = self.worts_now[(sort, name)]
        return NOUGHT if wort is None else wort[0]

    def take(self, sort, name, gallons):
        """The wort of so many gallons that are taken out of a thing."""
        taken, rest = parted(self.worts_now[(sort, name)], (gallons, 1))
        self.worts_now[(sort, name)] = rest
        return taken

    def is_untouched(self, running):
        """Whether nothing was taken out of a running."""
        thing = ("running", running)
        return self.worts_now[thing] == self.worts_at_first[thing]

    def is_sold(self, cask):
        """Whether a cask was sold."""
        return any(name == cask for name, wort in self.worts_sold)

    def give(self, parts):
        """These points came with malts."""
        self.parts_given = summed_parts([*self.parts_given, *parts])

    def spill(self, parts):
        """These points were spilt."""
        self.parts_spilt = summed_parts([*self.parts_spilt, *parts])

    def parts_sold(self):
        """The points that were sold, as parts of a wort."""
        return summed_parts([part for cask, wort in self.worts_sold for part in wort[1]])
