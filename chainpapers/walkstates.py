"""Walk states: what a walk from an anchor knows at each place."""

from chainpapers.basics import is_integer, is_key, is_tuple
from chainpapers.certificates import check_certificate, part_in
from chainpapers.constraints import let_region
from chainpapers.errors import InvalidAnchor, InvalidState
from chainpapers.names import is_name
from chainpapers.policysteps import first_state, is_policy_state
from chainpapers.regions import is_region
from chainpapers.stores import check_question, check_store, is_depth


def is_walk_state(value):
    """Return whether any value is a walk state."""
    if not is_tuple(value, 5, 5):
        return False
    name, key, left, region, policy = value
    if not is_name(name) or not is_key(key) or not is_depth(left):
        return False
    return is_region(region) and is_policy_state(policy)


def check_walk_state(state):
    """Raise InvalidState for what is no walk state."""
    if not is_walk_state(state):
        raise InvalidState("this is no walk state")


def check_anchor_index(store, anchor):
    """Raise InvalidAnchor for what is no index of an anchor of a store."""
    if not is_integer(anchor, 0, len(store[2]) - 1):
        raise InvalidAnchor("the store has no such anchor")


def first_walk_state(store, question, anchor):
    """Return the state with which a walk from an anchor begins, unchecked."""
    name, key, permitted, excluded, depth = store[2][anchor]
    return (name, key, depth, let_region(permitted, excluded), first_state(question[6][2:]))


def other_names_in(certificate):
    """Return the other names of a certificate, () without the part, unchecked."""
    names = part_in(certificate, "names")
    return () if names is None else names


def titles_in(certificate):
    """Return the ascending tuple of the titles of a certificate, unchecked."""
    return tuple(sorted(other_names_in(certificate) + (("name", certificate[2]),)))


def sealers_asked(question, state):
    """Return the ascending tuple of the sealers that are asked about withdrawal, unchecked."""
    return tuple(sorted(set(question[8] + (state[:2],))))


def begun(store, question, anchor):
    """Return the state with which a walk from an anchor begins."""
    check_store(store)
    check_question(store, question)
    check_anchor_index(store, anchor)
    return first_walk_state(store, question, anchor)


def titles_of(certificate):
    """Return the ascending tuple of the titles of a certificate."""
    check_certificate(certificate)
    return titles_in(certificate)


def walk_sealers(store, question, state):
    """Return the ascending tuple of the sealers that are asked about withdrawal: the question's and the state's."""
    check_store(store)
    check_question(store, question)
    check_walk_state(state)
    return sealers_asked(question, state)
