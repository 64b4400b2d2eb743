"""Marks: which paths of a kind of titles are in, told by the longest mark that begins a path."""

from chainpapers.basics import is_ascending, is_truth, is_tuple, is_word
from chainpapers.names import are_words

BOX_SIGN = "@"


def is_box_item(value):
    """Return whether any value is "@" and a word in one string."""
    return isinstance(value, str) and value.startswith(BOX_SIGN) and is_word(value[1:])


def is_box_path(value):
    """Return whether any value is a tuple of 1 to 4 words and a box behind them."""
    return is_tuple(value, 2, 5) and are_words(value[:-1], 1, 4) and is_box_item(value[-1])


def told_by(marks):
    """Return a dict that tells of each path of some marks what it has."""
    return {path: is_in for path, is_in in marks}


def told_of(told, path):
    """Return what the longest path that begins a path has in such a dict, False if there is none."""
    for many in range(len(path), -1, -1):
        if path[:many] in told:
            return told[path[:many]]
    return False


def is_mark(value, with_boxes):
    """Return whether any value is a pair (path, is_in), of letters or of another kind."""
    if not is_tuple(value, 2, 2) or not is_truth(value[1]):
        return False
    return are_words(value[0], 0, 4) or (with_boxes and is_box_path(value[0]))


def are_marks(value, with_boxes):
    """Return whether any value are marks, each of which tells something new."""
    if not isinstance(value, tuple):
        return False
    for mark in value:
        if not is_mark(mark, with_boxes):
            return False
    if not is_ascending([mark[0] for mark in value]):
        return False
    # A path is greater than all that begin it, so these are known when it comes.
    told = {}
    for path, is_in in value:
        if told_of(told, path) == is_in:
            return False
        told[path] = is_in
    return True


def combined_marks(one, other, wanted):
    """Return the marks of the paths of which one and other marks tell a pair of truth values that is wanted.

    No pair that is wanted is (False, False), as no marks at all tell nothing but False.
    """
    first = told_by(one)
    second = told_by(other)
    told = {}
    marks = []
    for path in sorted(set([mark[0] for mark in one + other])):
        is_in = (told_of(first, path), told_of(second, path)) in wanted
        if told_of(told, path) != is_in:
            told[path] = is_in
            marks.append((path, is_in))
    return tuple(marks)


def has_all_marked(one, other):
    """Return whether one marks tell True of all paths of which other marks do."""
    first = told_by(one)
    second = told_by(other)
    # Between the paths of marks nothing changes, so that these are enough.
    for path, _ in one + other:
        if told_of(second, path) and not told_of(first, path):
            return False
    return True
