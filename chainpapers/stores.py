"""Lists, anchors, stores, and questions of a store."""

from chainpapers.basics import are_all, are_ascending, are_some_of, are_span, is_ascending, is_integer, is_key
from chainpapers.basics import is_seal, is_serial, is_time, is_truth, is_tuple, is_word
from chainpapers.certificates import is_certificate
from chainpapers.errors import InvalidAnchor, InvalidList, InvalidQuestion, InvalidStore
from chainpapers.names import are_other_names, are_subtrees, is_name
from chainpapers.wordlists import PURPOSES, REASONS, SCOPE_KINDS, STATES, USES

MOST_GRACE = 1000000


def is_scope(value):
    """Return whether any value is the scope of a list."""
    if not is_tuple(value, 3, 3):
        return False
    kinds, others, reasons = value
    if kinds not in SCOPE_KINDS or not is_truth(others):
        return False
    # All seven would say what () says already.
    return is_tuple(reasons, 0, 6) and are_some_of(reasons, REASONS)


def is_entry_of(value, issuer, scope, is_delta):
    """Return whether any value is an entry of a whole list, or of a delta, with an issuer and a scope."""
    if not is_tuple(value, 4, 4):
        return False
    name, serial, when, reason = value
    if not is_name(name) or not is_serial(serial) or not is_time(when):
        return False
    if name != issuer and not scope[1]:
        return False
    if reason == "back":
        return is_delta
    return reason in (scope[2] or REASONS)


def are_entries_of(value, most, issuer, scope, is_delta):
    """Return whether any value is a tuple of at most so many such entries, ascending by issuer and serial."""
    if not is_tuple(value, 0, most):
        return False
    for entry in value:
        if not is_entry_of(entry, issuer, scope, is_delta):
            return False
    return is_ascending([entry[:2] for entry in value])


def is_list(value):
    """Return whether any value is a list."""
    if not is_tuple(value, 9, 9):
        return False
    issuer, sealer, number, base, since, until, scope, entries, seal = value
    if not is_name(issuer) or not is_key(sealer) or not is_serial(number):
        return False
    if not is_integer(base, -1, number - 1) or not are_span(since, until) or not is_scope(scope):
        return False
    return are_entries_of(entries, 30, issuer, scope, base >= 0) and is_seal(seal)


def check_list(own):
    """Raise InvalidList for what is no list."""
    if not is_list(own):
        raise InvalidList("this is no list")


def are_lists(value):
    """Return whether any value is an ascending tuple of 0 to 12 lists."""
    return are_ascending(value, 0, 12, is_list)


def is_depth(value):
    """Return whether any value is a depth: none, which is -1, or one from 0 to 8."""
    return is_integer(value, -1, 8)


def is_anchor(value):
    """Return whether any value is an anchor."""
    if not is_tuple(value, 5, 5):
        return False
    name, key, permitted, excluded, depth = value
    if not is_name(name) or not is_key(key) or not is_depth(depth):
        return False
    return are_subtrees(permitted, 0) and are_subtrees(excluded, 0)


def check_anchor(anchor):
    """Raise InvalidAnchor for what is no anchor."""
    if not is_anchor(anchor):
        raise InvalidAnchor("this is no anchor")


def is_store(value):
    """Return whether any value is a store."""
    if not is_tuple(value, 3, 3) or not are_ascending(value[0], 0, 30, is_certificate):
        return False
    return are_lists(value[1]) and are_ascending(value[2], 0, 6, is_anchor)


def check_store(store):
    """Raise InvalidStore for what is no store."""
    if not is_store(store):
        raise InvalidStore("this is no store")


def is_grace(value):
    """Return whether any value is a grace."""
    return is_integer(value, 0, MOST_GRACE)


def are_settings(value):
    """Return whether any value are the settings of a question."""
    if not is_tuple(value, 5, 5) or value[0] not in STATES or not is_grace(value[1]):
        return False
    # Each of the three numbers is none, or from 0 to 8, as a depth is.
    return are_all(value[2:], is_depth)


def is_sealer(value):
    """Return whether any value is a pair (name, key)."""
    return is_tuple(value, 2, 2) and is_name(value[0]) and is_key(value[1])


def are_sealers(value):
    """Return whether any value are sealers."""
    return are_ascending(value, 0, 12, is_sealer)


def are_wanted(value):
    """Return whether any value are policies wanted; policies or "any" are just all words."""
    return are_ascending(value, 1, 8, is_word)


def is_question_of(store, value):
    """Return whether any value is a question of a store, the store unchecked."""
    if not is_tuple(value, 9, 9):
        return False
    target, time, uses, purposes, names, wanted, settings, most, sealers = value
    if not is_integer(target, 0, len(store[0]) - 1) or not is_time(time):
        return False
    if not are_some_of(uses, USES) or not are_some_of(purposes, PURPOSES) or not are_other_names(names, 0):
        return False
    if not are_wanted(wanted) or not are_settings(settings) or not is_integer(most, 1, 8):
        return False
    return are_sealers(sealers)


def is_question(store, value):
    """Return whether any value is a question of a store."""
    check_store(store)
    return is_question_of(store, value)


def check_question(store, question):
    """Raise InvalidQuestion for what is no question of a store, the store unchecked."""
    if not is_question_of(store, question):
        raise InvalidQuestion("this is no question of the store")
