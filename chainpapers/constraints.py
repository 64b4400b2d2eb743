"""What permitted and excluded subtrees let, by one pair of them and by several."""

from chainpapers.basics import is_integer, is_tuple
from chainpapers.errors import InvalidConstraints
from chainpapers.names import are_subtrees
from chainpapers.regions import KINDS, WHOLE, check_region, combined, joined_subtrees
from chainpapers.spans import IN_BOTH, IN_FIRST
from chainpapers.subtrees import check_subtrees, check_title, holds_title

MOST_PAIRS = 8


def is_constraint(value):
    """Return whether any value is a pair (permitted, excluded)."""
    return is_tuple(value, 2, 2) and are_subtrees(value[0], 0) and are_subtrees(value[1], 0)


def are_constraints(value):
    """Return whether any value are constraints."""
    if not is_tuple(value, 0, MOST_PAIRS):
        return False
    for pair in value:
        if not is_constraint(pair):
            return False
    return True


def check_constraints(pairs):
    """Raise InvalidConstraints for what are no constraints."""
    if not are_constraints(pairs):
        raise InvalidConstraints("these are no constraints")


def permitted_region(permitted):
    """Return the region of the titles that one of the permitted subtrees holds, or of whose kind none of them is."""
    named = [subtree[0] for subtree in permitted]
    held = joined_subtrees(permitted)
    return tuple([held[at] if KINDS[at] in named else WHOLE[at] for at in range(len(KINDS))])


def let_region(permitted, excluded):
    """Return the region of the titles that permitted and excluded subtrees let, unchecked."""
    return combined(permitted_region(permitted), joined_subtrees(excluded), IN_FIRST)


def narrowed_region(region, permitted, excluded):
    """Return the region of the titles in a region that permitted and excluded subtrees let, unchecked."""
    return combined(region, let_region(permitted, excluded), IN_BOTH)


def is_held(subtrees, title):
    """Return whether one of some subtrees holds a title, unchecked."""
    for subtree in subtrees:
        if holds_title(subtree, title):
            return True
    return False


def is_outside(permitted, title):
    """Return whether there are permitted subtrees of the kind of a title, none of which holds it, unchecked."""
    return title[0] in [subtree[0] for subtree in permitted] and not is_held(permitted, title)


def is_let_by(permitted, excluded, title):
    """Return whether permitted and excluded subtrees let a title, unchecked."""
    return not is_outside(permitted, title) and not is_held(excluded, title)


def let_by(permitted, excluded):
    """Return the region of the titles that permitted and excluded subtrees let."""
    check_subtrees(permitted)
    check_subtrees(excluded)
    return let_region(permitted, excluded)


def lets(permitted, excluded, title):
    """Return whether permitted and excluded subtrees let a title."""
    check_subtrees(permitted)
    check_subtrees(excluded)
    check_title(title)
    return is_let_by(permitted, excluded, title)


def narrowed(region, permitted, excluded):
    """Return the region of the titles in a region that permitted and excluded subtrees let."""
    check_region(region)
    check_subtrees(permitted)
    check_subtrees(excluded)
    return narrowed_region(region, permitted, excluded)


def gathered(pairs):
    """Return the region of the titles that constraints let."""
    check_constraints(pairs)
    region = WHOLE
    for permitted, excluded in pairs:
        region = narrowed_region(region, permitted, excluded)
    return region


def first_bar_paper(pairs, title):
    """Return the first paper of what bars a title, or None if constraints let it, unchecked."""
    for at in range(len(pairs)):
        permitted, excluded = pairs[at]
        if is_outside(permitted, title):
            return ("outside", at)
        for place in range(len(excluded)):
            if holds_title(excluded[place], title):
                return ("inside", at, place)
    return None


def bar_paper(pairs, title):
    """Return any paper of what bars a title, or None if constraints let it."""
    check_constraints(pairs)
    check_title(title)
    return first_bar_paper(pairs, title)


def is_bar_paper(pairs, title, value):
    """Return whether any value is a paper of what bars a title, or None where constraints let it."""
    check_constraints(pairs)
    check_title(title)
    if value is None:
        return first_bar_paper(pairs, title) is None
    if not is_tuple(value, 2, 3) or not is_integer(value[1], 0, len(pairs) - 1):
        return False
    permitted, excluded = pairs[value[1]]
    if len(value) == 2:
        return value[0] == "outside" and is_outside(permitted, title)
    if value[0] != "inside" or not is_integer(value[2], 0, len(excluded) - 1):
        return False
    return holds_title(excluded[value[2]], title)
