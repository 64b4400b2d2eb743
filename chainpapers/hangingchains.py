"""Chains of a store that hang together from an anchor to the target."""

from chainpapers.basics import is_integer, is_tuple
from chainpapers.candidates import does_fit
from chainpapers.errors import InvalidPath
from chainpapers.stores import check_question, check_store
from chainpapers.walks import are_indices, walked


def is_store_chain(store, value):
    """Return whether any value is a chain of a store: an anchor's index, and unlike ones of certificates, unchecked."""
    if not is_tuple(value, 2, 2) or not is_integer(value[0], 0, len(store[2]) - 1) or not are_indices(store, value[1]):
        return False
    return len(set(value[1])) == len(value[1])


def check_store_chain(store, chain):
    """Raise InvalidPath for what is no chain of a store."""
    if not is_store_chain(store, chain):
        raise InvalidPath("this is no chain of the store")


def is_hanging(store, question, value):
    """Return whether any value is a chain that hangs together, unchecked."""
    if not is_store_chain(store, value):
        return False
    anchor, indices = value
    if len(indices) > question[7] or indices[-1] != question[0]:
        return False
    name, key = store[2][anchor][:2]
    for index in indices:
        if not does_fit(store[0][index], name, key):
            return False
        name, key = store[0][index][2:4]
    return True


def walk_told(store, question, chain):
    """Return ("path", policies let) or ("barred", place, reason) for a chain that hangs together, unchecked."""
    found = walked(store, question, chain[0], chain[1])[1]
    return ("path", found[1]) if found[0] == "let" else found


def does_hang(store, question, value):
    """Return whether any value is a chain that hangs together."""
    check_store(store)
    check_question(store, question)
    return is_hanging(store, question, value)


def walk_of(store, question, chain):
    """Return ("path", policies let) or ("barred", place, reason) for a chain that hangs together."""
    check_store(store)
    check_question(store, question)
    if not is_hanging(store, question, chain):
        raise InvalidPath("this is no chain that hangs together")
    return walk_told(store, question, chain)
