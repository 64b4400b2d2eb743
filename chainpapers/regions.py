"""Regions: sets of titles in one plain form."""

from chainpapers.basics import is_tuple
from chainpapers.errors import InvalidRegion
from chainpapers.marks import BOX_SIGN, are_marks, combined_marks, has_all_marked, told_by, told_of
from chainpapers.spans import IN_ANY, IN_BOTH, IN_FIRST, are_spans, combined_spans, has_all_spans, is_in_spans
from chainpapers.subtrees import check_subtrees, check_title, holds_none

KINDS = ("house", "letter", "name", "number")
WHOLE = ((((), True),), (((), True),), (((), True),), ((0, 65535),))
NOTHING = ((), (), (), ())


def is_region(value):
    """Return whether any value is a region."""
    if not is_tuple(value, 4, 4):
        return False
    houses, letters, names, numbers = value
    return are_marks(houses, False) and are_marks(letters, True) and are_marks(names, False) and are_spans(numbers)


def check_region(region):
    """Raise InvalidRegion for what is no region."""
    if not is_region(region):
        raise InvalidRegion("this is no region")


def combined(one, other, wanted):
    """Return the region of the titles whose being in one and in other regions is a pair that is wanted, unchecked."""
    marks = [combined_marks(one[at], other[at], wanted) for at in range(3)]
    return tuple(marks) + (combined_spans(one[3], other[3], wanted),)


def has_all_of(region, other):
    """Return whether a region has all titles of another one, unchecked."""
    for at in range(3):
        if not has_all_marked(region[at], other[at]):
            return False
    return has_all_spans(region[3], other[3])


def title_path(title):
    """Return the path of a house, a name or a letter."""
    if title[0] == "letter":
        return title[2] + (BOX_SIGN + title[1],)
    return title[1]


def is_title_in(region, title):
    """Return whether a title is in a region, unchecked."""
    if title[0] == "number":
        return is_in_spans(region[3], title[1])
    marks = region[KINDS.index(title[0])]
    return told_of(told_by(marks), title_path(title))


def subtree_path(subtree):
    """Return the path to the titles that a subtree of houses, names or letters holds."""
    if subtree[0] == "letter" and subtree[1] != "":
        return title_path(subtree)
    return subtree[-1]


def subtree_region(subtree):
    """Return the region of the titles that a subtree holds, unchecked."""
    if holds_none(subtree):
        return NOTHING
    at = KINDS.index(subtree[0])
    held = (subtree[1:],) if subtree[0] == "number" else ((subtree_path(subtree), True),)
    return NOTHING[:at] + (held,) + NOTHING[at + 1:]


def joined_subtrees(subtrees):
    """Return the region of the titles that some subtree holds, unchecked."""
    region = NOTHING
    for subtree in subtrees:
        region = combined(region, subtree_region(subtree), IN_ANY)
    return region


def whole_region():
    """Return the region of all titles."""
    return WHOLE


def region_of(subtrees):
    """Return the region of the titles that some subtree holds."""
    check_subtrees(subtrees)
    return joined_subtrees(subtrees)


def is_in(region, title):
    """Return whether a title is in a region."""
    check_region(region)
    check_title(title)
    return is_title_in(region, title)


def meet_of(one, other):
    """Return the region of the titles that are in both regions."""
    check_region(one)
    check_region(other)
    return combined(one, other, IN_BOTH)


def join_of(one, other):
    """Return the region of the titles that are in one of two regions, or in both."""
    check_region(one)
    check_region(other)
    return combined(one, other, IN_ANY)


def less_of(one, other):
    """Return the region of the titles that are in one region, and not in another one."""
    check_region(one)
    check_region(other)
    return combined(one, other, IN_FIRST)


def other_of(region):
    """Return the region of the titles that are not in a region."""
    check_region(region)
    return combined(WHOLE, region, IN_FIRST)
