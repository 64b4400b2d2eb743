"""Moves of regions along the certificates of a store, each of them made once; the regions have numbers."""

from chainpapers.constraints import let_region
from chainpapers.regions import WHOLE, combined, has_all_of
from chainpapers.rules import is_named, subtrees_told
from chainpapers.spans import IN_BOTH


class RegionMoves:
    """The regions that were met, by their numbers, and what they become at certificates."""

    def __init__(self, store):
        self.certificates = store[0]
        self.met = []
        self.numbers = {}
        self.let = {}
        self.passings = {}
        self.namings = {}
        self.orders = {}

    def number_of(self, region):
        """Return the number of a region."""
        if region not in self.numbers:
            self.numbers[region] = len(self.met)
            self.met.append(region)
        return self.numbers[region]

    def let_by_own(self, index):
        """Return the region that the subtrees of a certificate let."""
        if index not in self.let:
            permitted, excluded = subtrees_told(self.certificates[index])
            self.let[index] = let_region(permitted, excluded)
        return self.let[index]

    def passing(self, number, index):
        """Return the number of the region of what is in a region and let by the subtrees of a certificate."""
        if (number, index) not in self.passings:
            own = self.let_by_own(index)
            # Most certificates have no subtrees, and narrow nothing.
            region = self.met[number] if own == WHOLE else combined(self.met[number], own, IN_BOTH)
            self.passings[(number, index)] = self.number_of(region)
        return self.passings[(number, index)]

    def names(self, number, index, is_target):
        """Return whether a certificate has no titles but those in a region, or is not asked for it."""
        move = (number, index, is_target)
        if move not in self.namings:
            self.namings[move] = is_named(self.met[number], self.certificates[index], is_target)
        return self.namings[move]

    def is_laxer(self, number, other):
        """Return whether the first region has all titles of the other one."""
        if (number, other) not in self.orders:
            self.orders[(number, other)] = has_all_of(self.met[number], self.met[other])
        return self.orders[(number, other)]
