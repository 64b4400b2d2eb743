"""Titles that show that a region is not empty, or that two regions are unlike."""

from chainpapers.marks import BOX_SIGN
from chainpapers.regions import check_region, combined
from chainpapers.spans import IN_FIRST


def fresh_word(used):
    """Return a word that is none of those in a dict."""
    number = 0
    while f"w{number}" in used:
        number += 1
    return f"w{number}"


def fresh_behind(marks, path):
    """Return a word that no path of some marks has behind the items of a path, a box being told by its word."""
    many = len(path)
    used = {}
    for mark in marks:
        if len(mark[0]) > many and mark[0][:many] == path:
            used[mark[0][many].lstrip(BOX_SIGN)] = True
    return fresh_word(used)


def words_in(marks):
    """Return words of a house or name that are in, of marks of which there are some."""
    # No path begins the first one, so it is in; and so is all behind it for which there is no other mark.
    path = marks[0][0]
    return path if path else (fresh_behind(marks, path),)


def letter_in(marks):
    """Return a letter that is in, of marks of which there are some."""
    path = marks[0][0]
    if path and path[-1].startswith(BOX_SIGN):
        return ("letter", path[-1][1:], path[:-1])
    word = fresh_behind(marks, path)
    # Behind no words at all no box may follow at once.
    return ("letter", word, path if path else (word,))


def some_title(region):
    """Return any title in a region, or None, unchecked."""
    houses, letters, names, numbers = region
    if houses:
        return ("house", words_in(houses))
    if letters:
        return letter_in(letters)
    if names:
        return ("name", words_in(names))
    if numbers:
        return ("number", numbers[0][0])
    return None


def title_in(region):
    """Return any title in a region, or None if there is none."""
    check_region(region)
    return some_title(region)


def apart_paper(one, other):
    """Return any title that is in just one of two regions, or None if there is none."""
    check_region(one)
    check_region(other)
    title = some_title(combined(one, other, IN_FIRST))
    return some_title(combined(other, one, IN_FIRST)) if title is None else title


def cover_paper(one, other):
    """Return any title that is in the second region, and not in the first one, or None if there is none."""
    check_region(one)
    check_region(other)
    return some_title(combined(other, one, IN_FIRST))
