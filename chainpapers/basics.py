"""Plain values: the checks that all other files build on."""

SIGNS = "0123456789abcdefghijklmnopqrstuvwxyz"
MOST_SEAL = 4294967295
MOST_TIME = 1000000000
MOST_SERIAL = 1000000


def is_integer(value, low, high):
    """Return whether any value is an integer from low to high."""
    # True and False would pass as 1 and 0 otherwise.
    return isinstance(value, int) and not isinstance(value, bool) and low <= value <= high


def is_truth(value):
    """Return whether any value is True or False."""
    return isinstance(value, bool)


def is_tuple(value, least, most):
    """Return whether any value is a tuple of least to most items."""
    return isinstance(value, tuple) and least <= len(value) <= most


def are_signs(value, least, most):
    """Return whether any value is a string of least to most characters "a" to "z" and "0" to "9"."""
    if not isinstance(value, str) or not least <= len(value) <= most:
        return False
    for sign in value:
        if sign not in SIGNS:
            return False
    return True


def is_word(value):
    """Return whether any value is a word."""
    return are_signs(value, 1, 12)


def is_policy(value):
    """Return whether any value is a policy."""
    return is_word(value) and value != "any"


def is_key(value):
    """Return whether any value is a key."""
    return is_integer(value, 0, MOST_SEAL)


def is_seal(value):
    """Return whether any value is a seal, which may be any number that a key may be."""
    return is_integer(value, 0, MOST_SEAL)


def is_time(value):
    """Return whether any value is a time."""
    return is_integer(value, 0, MOST_TIME)


def are_span(since, until):
    """Return whether any two values are times, the first one at most the second one."""
    return is_time(since) and is_time(until) and since <= until


def is_serial(value):
    """Return whether any value is a serial, or the number of a list."""
    return is_integer(value, 0, MOST_SERIAL)


def are_all(items, is_one):
    """Return whether each item is one of a sort."""
    for item in items:
        if not is_one(item):
            return False
    return True


def is_ascending(items):
    """Return whether items that can be compared ascend, no two of them alike."""
    for at in range(1, len(items)):
        if not items[at - 1] < items[at]:
            return False
    return True


def are_ascending(value, least, most, is_one):
    """Return whether any value is an ascending tuple of least to most items of a sort."""
    # Only items of one sort can be compared, so their order is asked last.
    return is_tuple(value, least, most) and are_all(value, is_one) and is_ascending(value)


def are_some_of(value, words):
    """Return whether any value is an ascending tuple, perhaps (), of some of these words."""
    if not is_tuple(value, 0, len(words)):
        return False
    for item in value:
        if item not in words:
            return False
    return is_ascending(value)


def is_alike(value, plain):
    """Return whether any value is just this one, which is made of integers, strings and tuples."""
    if not isinstance(plain, tuple):
        # True is equal to 1, but unlike it.
        return value == plain and not isinstance(value, bool)
    if not is_tuple(value, len(plain), len(plain)):
        return False
    for at in range(len(plain)):
        if not is_alike(value[at], plain[at]):
            return False
    return True
