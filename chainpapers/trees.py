"""What trees are made of, and the knots of a tree, numbered as they are met."""

AGAIN = ("again",)
LONG = ("long",)


def mark_of(index):
    """Return the bit that stands for an index in the marks of several."""
    return 1 << index


def marks_of(indices):
    """Return the marks of some unlike indices."""
    return sum([mark_of(index) for index in indices])


def marks_within(indices):
    """Return the list of the marks of all lots of some unlike indices that have the last one, or of no index."""
    if not indices:
        return [0]
    found = [mark_of(indices[-1])]
    for index in indices[:-1]:
        found = found + [marks + mark_of(index) for marks in found]
    return found


class Knots:
    """The knots (anchor, indices, spot) of a tree whose children are told, by their numbers."""

    def __init__(self, walker):
        self.walker = walker
        self.met = []
        self.places = {}

    def meet(self, knot):
        """Give the next number to a knot."""
        indices = knot[1]
        self.places.setdefault((indices[-1:], marks_of(indices)), []).append(len(self.met))
        self.met.append(knot)

    def is_as(self, knot, number):
        """Return whether a knot may stand as the one with a number, which was met ahead of it."""
        anchor, indices, spot = knot
        other_anchor, others, other_spot = self.met[number]
        if others[-1:] != indices[-1:]:
            return False
        for index in others:
            if index not in indices:
                return False
        # Behind the same last certificate there are the same name and key; anchors may have unlike ones.
        anchors = self.walker.anchors
        if not indices and anchors[other_anchor][:2] != anchors[anchor][:2]:
            return False
        return self.walker.is_laxer(other_spot, spot)

    def number_as(self, knot):
        """Return the least number of a knot as which a knot may stand, or None if there is none."""
        indices = knot[1]
        numbers = []
        for marks in marks_within(indices):
            numbers.extend(self.places.get((indices[-1:], marks), []))
        for number in sorted(numbers):
            if self.is_as(knot, number):
                return number
        return None
