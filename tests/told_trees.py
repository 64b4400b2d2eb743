"""Closed trees, built item by item as the document tells them, from the states that the steps of walks return."""

from chainpapers.laxer import is_laxer
from chainpapers.steps import ended, entered, passed
from chainpapers.walkstates import begun
from tests.worlds import told_behind


class PathMet(Exception):
    """Raised where the target is let, so that there is no tree."""


class Teller:
    """Tells a closed tree; choose(numbers) says as which one of some knots a knot stands, or None for none of them."""

    def __init__(self, store, question, choose):
        self.store, self.question, self.choose = store, question, choose
        self.knots = []

    def tree(self):
        return tuple(self.knot(anchor, (), begun(self.store, self.question, anchor)) for anchor in range(len(self.store[2])))

    def may_be_as(self, indices, state):
        return [number for number, (others, other_state) in enumerate(self.knots)
                if others[-1:] == indices[-1:] and set(others) <= set(indices) and len(others) <= len(indices)
                and is_laxer(other_state, state)]

    def knot(self, anchor, indices, state):
        numbers = self.may_be_as(indices, state)
        number = self.choose(numbers) if numbers else None
        if number is not None:
            return ("as", number)
        self.knots.append((indices, state))
        return ("knot", tuple((index, self.child(anchor, indices, state, index))
                              for index in told_behind(self.store, anchor, indices)))

    def child(self, anchor, indices, state, index):
        if index in indices:
            return ("again",)
        if len(indices) >= self.question[7]:
            return ("long",)
        is_target = index == self.question[0]
        for step in (entered, ended if is_target else passed):
            found = step(self.store, self.question, state, index)
            if found[0] == "barred":
                return found
            state = found[1]
        if is_target:
            raise PathMet((anchor, indices + (index,)), state)
        return self.knot(anchor, indices + (index,), state)


class Judge(Teller):
    """Judges any value, item by item."""

    def __init__(self, store, question):
        super().__init__(store, question, None)
        self.below = None

    def takes(self, value):
        return isinstance(value, tuple) and len(value) == len(self.store[2]) and all(
            self.takes_knot(anchor, (), begun(self.store, self.question, anchor), item) for anchor, item in enumerate(value))

    def takes_knot(self, anchor, indices, state, value):
        if not isinstance(value, tuple) or len(value) != 2 or value[0] not in ("as", "knot"):
            return False
        if value[0] == "as":
            return repr(value[1]) in [repr(number) for number in self.may_be_as(indices, state)]
        self.knots.append((indices, state))
        pairs = value[1]
        if not isinstance(pairs, tuple) or not all(isinstance(pair, tuple) and len(pair) == 2 for pair in pairs):
            return False
        if repr([pair[0] for pair in pairs]) != repr(told_behind(self.store, anchor, indices)):
            return False
        return all(self.takes_child(anchor, indices, state, index, item) for index, item in pairs)

    def takes_child(self, anchor, indices, state, index, value):
        self.below = None
        try:
            told = self.child(anchor, indices, state, index)
        except PathMet:
            return False
        if self.below is None:
            return repr(value) == repr(told)
        return self.takes_knot(*self.below, value)

    def knot(self, anchor, indices, state):
        """Where the teller goes on with a knot the judge notes which one it is."""
        self.below = (anchor, indices, state)


def told_takes(store, question, value):
    """Whether any value is a closed tree."""
    return Judge(store, question).takes(value)


def told_tree(store, question, choose=lambda numbers: None):
    """The closed tree, or None if a path is met: without any choice the one that has no ("as", number)."""
    try:
        return Teller(store, question, choose).tree()
    except PathMet:
        return None


def items_of(item):
    """All items of a tree's item, itself included."""
    yield item
    if item[0] == "knot":
        for _, child in item[1]:
            yield from items_of(child)


def words_of(tree):
    """How often each word stands in a closed tree."""
    found = {}
    for top in tree:
        for item in items_of(top):
            if item[0] != "knot":
                word = item[1] if item[0] == "barred" else item[0]
                found[word] = found.get(word, 0) + 1
    return tuple(sorted(found.items()))
