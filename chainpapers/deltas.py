"""Deltas, and what they make of the whole lists on which they are laid."""

from chainpapers.errors import InvalidDelta
from chainpapers.reaching import family_in
from chainpapers.stores import check_list

NO_BASE = -1


def is_whole(own):
    """Return whether a list is a whole one, unchecked."""
    return own[3] == NO_BASE


def fits_on(whole, delta):
    """Return whether the second list is a delta that can be laid on the first one, a whole list, unchecked."""
    if not is_whole(whole) or is_whole(delta) or family_in(whole) != family_in(delta):
        return False
    return delta[3] <= whole[2] < delta[2]


def last_entries(entries):
    """Return the ascending tuple of the last ones of some entries for each issuer and serial."""
    last = {}
    for entry in entries:
        last[entry[:2]] = entry
    return tuple([last[place] for place in sorted(last)])


def entries_in_force(entries):
    """Return the tuple of those entries that give nothing back."""
    return tuple([entry for entry in entries if entry[3] != "back"])


def entries_laid(whole, delta):
    """Return the entries of a delta laid on a whole list, unchecked."""
    return entries_in_force(last_entries(whole[7] + delta[7]))


def can_be_laid(whole, delta):
    """Return whether the second list is a delta that can be laid on the first one, a whole list."""
    check_list(whole)
    check_list(delta)
    return fits_on(whole, delta)


def laid_entries(whole, delta):
    """Return the entries of a delta laid on a whole list, on which it can be laid."""
    check_list(whole)
    check_list(delta)
    if not fits_on(whole, delta):
        raise InvalidDelta("this can not be laid on the list")
    return entries_laid(whole, delta)
