"""Titles and subtrees by the hundred, and the rules of the document told of each title by itself."""

import itertools

MOST_NUMBER = 65535


def tuples_of(words, least, most):
    return [chosen for many in range(least, most + 1) for chosen in itertools.product(words, repeat=many)]


def titles_of(words, boxes, numbers, most=4):
    """All titles of these words, boxes and numbers."""
    found = [(kind, chosen) for kind in ("house", "name") for chosen in tuples_of(words, 1, most)]
    found += [("letter", box, chosen) for box in boxes for chosen in tuples_of(words, 1, most)]
    return found + [("number", number) for number in numbers]


def subtrees_of(words, boxes, numbers, most=4):
    """All subtrees of these words, boxes and bounds."""
    found = [(kind, chosen) for kind in ("house", "name") for chosen in tuples_of(words, 0, most)]
    found += [("letter", box, chosen) for box in boxes for chosen in tuples_of(words, 0, most)]
    return found + [("number", low, high) for low in numbers for high in numbers if low <= high]


def told_holds(subtree, title):
    """Whether a subtree holds a title, in the document's words."""
    if subtree[0] != title[0]:
        return False
    if subtree[0] == "number":
        return title[1] in range(subtree[1], subtree[2] + 1)
    if subtree[0] == "letter" and subtree[1]:
        return title == subtree and len(subtree[2]) > 0
    return title[-1][:len(subtree[-1])] == subtree[-1]


def told_lets(permitted, excluded, title):
    """Whether permitted and excluded subtrees let a title, in the document's words."""
    if any(told_holds(subtree, title) for subtree in excluded):
        return False
    own = [subtree for subtree in permitted if subtree[0] == title[0]]
    return not own or any(told_holds(subtree, title) for subtree in own)


def told_in(region, title):
    """Whether a title is in a region, in the document's words."""
    houses, letters, names, numbers = region
    if title[0] == "number":
        return any(low <= title[1] <= high for low, high in numbers)
    path = title[-1] + (("@" + title[1],) if title[0] == "letter" else ())
    marks = {"house": houses, "letter": letters, "name": names}[title[0]]
    beginning = [mark for mark in marks if path[:len(mark[0])] == mark[0]]
    return max(beginning, key=lambda mark: len(mark[0]), default=((), False))[1]
