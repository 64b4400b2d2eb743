"""Stores with a certificate more or less, and chains moved from one store to another."""

from chainpapers.basics import is_integer
from chainpapers.certificates import check_certificate
from chainpapers.errors import InvalidNumber, TooMany
from chainpapers.hangingchains import check_store_chain
from chainpapers.stores import check_store

MOST_CERTIFICATES = 30


def check_index(store, index):
    """Raise InvalidNumber for what is no index of a certificate of a store."""
    if not is_integer(index, 0, len(store[0]) - 1):
        raise InvalidNumber("the store has no such certificate")


def with_certificate(store, certificate):
    """Return a store with a certificate more, in its place, or the same one if it has it."""
    check_store(store)
    check_certificate(certificate)
    if certificate in store[0]:
        return store
    if len(store[0]) == MOST_CERTIFICATES:
        raise TooMany(MOST_CERTIFICATES)
    return (tuple(sorted(store[0] + (certificate,))),) + store[1:]


def without_certificate(store, index):
    """Return a store without one certificate."""
    check_store(store)
    check_index(store, index)
    return (store[0][:index] + store[0][index + 1:],) + store[1:]


def moved_chain(store, other, chain):
    """Return the chain of another store with the same anchor and certificates, or None if one is not there."""
    check_store(store)
    check_store(other)
    check_store_chain(store, chain)
    anchor, indices = chain
    certificates = [store[0][index] for index in indices]
    if store[2][anchor] not in other[2]:
        return None
    for certificate in certificates:
        if certificate not in other[0]:
            return None
    return (other[2].index(store[2][anchor]), tuple([other[0].index(certificate) for certificate in certificates]))
