"""Names, other names and subtrees."""

from chainpapers.basics import are_all, are_ascending, is_integer, is_tuple, is_word

MOST_NUMBER = 65535


def are_words(value, least, most):
    """Return whether any value is a tuple of least to most words."""
    return is_tuple(value, least, most) and are_all(value, is_word)


def is_name(value):
    """Return whether any value is a name."""
    return are_words(value, 1, 4)


def is_named_number(value):
    """Return whether any value is an integer that an other name may have."""
    return is_integer(value, 0, MOST_NUMBER)


def is_other_name(value):
    """Return whether any value is an other name."""
    if not is_tuple(value, 2, 3):
        return False
    kind = value[0]
    if len(value) == 3:
        return kind == "letter" and is_word(value[1]) and are_words(value[2], 1, 4)
    if kind == "house":
        return are_words(value[1], 1, 4)
    return kind == "number" and is_named_number(value[1])


def is_subtree(value):
    """Return whether any value is a subtree."""
    if not is_tuple(value, 2, 3):
        return False
    kind = value[0]
    if len(value) == 2:
        return kind in ("house", "name") and are_words(value[1], 0, 4)
    if kind == "letter":
        return (value[1] == "" or is_word(value[1])) and are_words(value[2], 0, 4)
    if kind == "number":
        return is_named_number(value[1]) and is_named_number(value[2]) and value[1] <= value[2]
    return False


def are_other_names(value, least):
    """Return whether any value is an ascending tuple of least to 8 other names."""
    return are_ascending(value, least, 8, is_other_name)


def are_subtrees(value, least):
    """Return whether any value is an ascending tuple of least to 8 subtrees."""
    return are_ascending(value, least, 8, is_subtree)
