"""Histories: steps of changes, and the lists that they tell."""

from chainpapers.basics import are_all, are_span, is_integer, is_key, is_tuple
from chainpapers.deltas import NO_BASE, entries_in_force, last_entries
from chainpapers.errors import InvalidHistory, InvalidNumber, TooMany
from chainpapers.names import is_name
from chainpapers.sealing import fitting_seal
from chainpapers.stores import are_entries_of, is_scope

MOST_STEPS = 30
MOST_CHANGES = 8
MOST_ENTRIES = 30
# With others in it, this lets entries of any issuer, so that none needs to be told.
ANY_SCOPE = ("all", True, ())


def is_step(value):
    """Return whether any value is a step: changes as the entries of some delta."""
    return are_entries_of(value, MOST_CHANGES, None, ANY_SCOPE, True)


def is_history(value):
    """Return whether any value is a history."""
    return is_tuple(value, 0, MOST_STEPS) and are_all(value, is_step)


def check_history(history):
    """Raise InvalidHistory for what is no history."""
    if not is_history(history):
        raise InvalidHistory("this is no history")


def is_frame(history, value):
    """Return whether any value is a frame of a history."""
    if not is_tuple(value, 5, 5):
        return False
    issuer, sealer, since, until, scope = value
    if not is_name(issuer) or not is_key(sealer) or not are_span(since, until) or not is_scope(scope):
        return False
    for step in history:
        if not are_entries_of(step, MOST_CHANGES, issuer, scope, True):
            return False
    return True


def check_frame(history, frame):
    """Raise InvalidHistory for what is no frame of a history."""
    if not is_frame(history, frame):
        raise InvalidHistory("this is no frame of the history")


def check_number(history, number):
    """Raise InvalidNumber for what is no number of first steps of a history."""
    if not is_integer(number, 0, len(history)):
        raise InvalidNumber("the history has no such number")


def last_changes(steps):
    """Return the ascending tuple of the last changes of all that is changed in some steps."""
    changes = []
    for step in steps:
        changes.extend(step)
    return last_entries(changes)


def entries_at(history, number):
    """Return the entries of a history at a number, unchecked."""
    return entries_in_force(last_changes(history[:number]))


def entries_after(history, number):
    """Return the entries of a history at a number."""
    check_history(history)
    check_number(history, number)
    return entries_at(history, number)


def history_list(history, frame, base, number):
    """Return the list that a history tells within a frame, for a base, -1 being that of whole lists, and a number."""
    check_history(history)
    check_frame(history, frame)
    check_number(history, number)
    if not is_integer(base, NO_BASE, number - 1):
        raise InvalidNumber("a base is below the number, or -1")
    entries = entries_at(history, number) if base == NO_BASE else last_changes(history[base:number])
    if len(entries) > MOST_ENTRIES:
        raise TooMany(MOST_ENTRIES)
    issuer, sealer, since, until, scope = frame
    own = (issuer, sealer, number, base, since, until, scope, entries)
    return own + (fitting_seal(sealer, own),)
