"""Titles, and what subtrees hold of them."""

from chainpapers.basics import is_tuple
from chainpapers.errors import InvalidName, InvalidSubtree
from chainpapers.names import are_subtrees, is_name, is_other_name, is_subtree


def is_title(value):
    """Return whether any value is a title."""
    if is_other_name(value):
        return True
    return is_tuple(value, 2, 2) and value[0] == "name" and is_name(value[1])


def check_title(title):
    """Raise InvalidName for what is no title."""
    if not is_title(title):
        raise InvalidName("this is no title")


def check_subtree(subtree):
    """Raise InvalidSubtree for what is no subtree."""
    if not is_subtree(subtree):
        raise InvalidSubtree("this is no subtree")


def check_subtrees(subtrees):
    """Raise InvalidSubtree for what is no ascending tuple of 0 to 8 subtrees."""
    if not are_subtrees(subtrees, 0):
        raise InvalidSubtree("this is no ascending tuple of at most 8 subtrees")


def begins(words, others):
    """Return whether some words are the first ones of others, in order."""
    return others[:len(words)] == words


def holds_title(subtree, title):
    """Return whether a subtree holds a title, unchecked."""
    if subtree[0] != title[0]:
        return False
    if subtree[0] == "number":
        return subtree[1] <= title[1] <= subtree[2]
    if subtree[0] != "letter":
        return begins(subtree[1], title[1])
    if subtree[1] == "":
        return begins(subtree[2], title[2])
    return subtree[1:] == title[1:]


def holds(subtree, title):
    """Return whether a subtree holds a title."""
    check_subtree(subtree)
    check_title(title)
    return holds_title(subtree, title)


def holds_none(subtree):
    """Return whether a subtree holds no title, which only a box without words does."""
    return subtree[0] == "letter" and subtree[1] != "" and subtree[2] == ()


def is_within(one, other):
    """Return whether each title that one subtree holds is held by another one."""
    check_subtree(one)
    check_subtree(other)
    if holds_none(one):
        return True
    if one[0] != other[0]:
        return False
    if one[0] == "number":
        return other[1] <= one[1] and one[2] <= other[2]
    if one[0] != "letter":
        return begins(other[1], one[1])
    if other[1] == "":
        return begins(other[2], one[2])
    return one == other
