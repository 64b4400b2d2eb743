"""Rows of octets, and their seals."""

from chainpapers.basics import is_integer, is_key, is_tuple
from chainpapers.errors import InvalidNumber, InvalidRow

MOST_OCTETS = 20000
SEAL_MODULUS = 4294967291


def is_row(value):
    """Return whether any value is a row."""
    if not is_tuple(value, 0, MOST_OCTETS):
        return False
    for octet in value:
        if not is_integer(octet, 0, 255):
            return False
    return True


def check_row(row):
    """Raise InvalidRow for what is no row."""
    if not is_row(row):
        raise InvalidRow("a row is a tuple of at most 20000 octets")


def check_key(key):
    """Raise InvalidNumber for what is no key."""
    if not is_key(key):
        raise InvalidNumber("a key is an integer from 0 to 4294967295")


def seal_of_octets(key, octets):
    """Return the seal of octets by a key, unchecked."""
    rest = key % SEAL_MODULUS
    for octet in octets:
        rest = (257 * rest + octet + 1) % SEAL_MODULUS
    return (rest * rest + key) % SEAL_MODULUS


def seal_of(key, row):
    """Return the seal of a row by a key."""
    check_key(key)
    check_row(row)
    return seal_of_octets(key, row)
