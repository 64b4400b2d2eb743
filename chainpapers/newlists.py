"""The lists that a desk writes anew, one withdrawal or one giving back behind an old list."""

from chainpapers.basics import MOST_SERIAL, are_span, is_serial, is_time
from chainpapers.deltas import NO_BASE
from chainpapers.errors import InvalidName, InvalidNumber, InvalidWord, TooMany
from chainpapers.names import is_name
from chainpapers.sealing import fitting_seal
from chainpapers.seals import check_key
from chainpapers.texterrors import IsThere, NotThere
from chainpapers.wordlists import REASONS

OWN_SCOPE = ("all", False, ())
MOST_ENTRIES = 30


def check_who(issuer, sealer, serial):
    """Raise the error of the first one of these that is wrong."""
    if not is_name(issuer):
        raise InvalidName("this is no name")
    check_key(sealer)
    if not is_serial(serial):
        raise InvalidNumber("a serial is an integer from 0 to 1000000")


def check_why(when, reason):
    """Raise the error of the first one of these that is wrong."""
    if not is_time(when):
        raise InvalidNumber("a time is an integer from 0 to 1000000000")
    if reason not in REASONS:
        raise InvalidWord("this is no reason")


def check_span(since, until):
    """Raise InvalidNumber for what are no two times, the first one at most the second one."""
    if not are_span(since, until):
        raise InvalidNumber("these are no two times, the first one at most the second one")


def old_list(lists, issuer, sealer):
    """Return the list that is the newest one of this issuer and sealer, whole and of all, or None if there is none."""
    found = [own for own in lists if own[:2] == (issuer, sealer) and own[3] == NO_BASE and own[6] == OWN_SCOPE]
    # All have the same issuer and sealer, so that the greatest tuple is one with the greatest number.
    return max(found) if found else None


def old_entries(old):
    """Return the entries of an old list, () without one."""
    return () if old is None else old[7]


def entries_with(old, entry):
    """Return the entries of an old list and one more."""
    entries = old_entries(old)
    if entry[1] in [other[1] for other in entries]:
        raise IsThere("this serial is withdrawn already")
    if len(entries) == MOST_ENTRIES:
        raise TooMany(MOST_ENTRIES)
    return tuple(sorted(entries + (entry,)))


def entries_without(old, serial):
    """Return the entries of an old list but that with a serial, which must be on hold."""
    entries = old_entries(old)
    if (serial, "hold") not in [(entry[1], entry[3]) for entry in entries]:
        raise NotThere("no such serial is on hold")
    return tuple([entry for entry in entries if entry[1] != serial])


def next_list(old, issuer, sealer, span, entries):
    """Return the new list behind an old one, or behind none, with other entries."""
    number = 0 if old is None else old[2] + 1
    if number > MOST_SERIAL:
        raise TooMany(MOST_SERIAL)
    own = (issuer, sealer, number, NO_BASE) + span + (OWN_SCOPE, entries)
    return own + (fitting_seal(sealer, own),)
