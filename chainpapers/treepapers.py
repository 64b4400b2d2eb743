"""The judge of what is built: paths and closed trees."""

from chainpapers.basics import is_alike, is_integer, is_tuple
from chainpapers.hangingchains import is_hanging, walk_told
from chainpapers.stores import check_question, check_store
from chainpapers.trees import AGAIN, LONG, Knots
from chainpapers.walker import Walker


class TreeJudge:
    """Goes through any value, and takes it if it is a closed tree of the question of a walker."""

    def __init__(self, walker):
        self.walker = walker
        self.knots = Knots(walker)

    def takes_items(self, value):
        """Return whether any value is a tuple of an item for each anchor."""
        many = len(self.walker.anchors)
        if not is_tuple(value, many, many):
            return False
        for anchor in range(many):
            if not self.takes_knot((anchor, (), self.walker.begin(anchor)), value[anchor]):
                return False
        return True

    def takes_knot(self, knot, value):
        """Return whether any value is the item of a knot."""
        if not is_tuple(value, 2, 2):
            return False
        if value[0] == "as":
            return is_integer(value[1], 0, len(self.knots.met) - 1) and self.knots.is_as(knot, value[1])
        return value[0] == "knot" and self.takes_children(knot, value[1])

    def takes_children(self, knot, value):
        """Return whether any value are the children of a knot, which is met by this."""
        self.knots.meet(knot)
        fitting = self.walker.fitting(knot[0], knot[1])
        if not is_tuple(value, len(fitting), len(fitting)):
            return False
        for at in range(len(fitting)):
            child = value[at]
            if not is_tuple(child, 2, 2) or not is_alike(child[0], fitting[at]):
                return False
            if not self.takes_child(knot, fitting[at], child[1]):
                return False
        return True

    def takes_child(self, knot, index, value):
        """Return whether any value is the item of a certificate behind a knot."""
        anchor, indices, spot = knot
        if index in indices:
            return value == AGAIN
        if len(indices) == self.walker.question[7]:
            return value == LONG
        step = self.walker.step(spot, index, index == self.walker.question[0])
        if step[0] == "on":
            return self.takes_knot((anchor, indices + (index,), step[1]), value)
        # Where the target is let there is a path, and no tree.
        return step[0] == "barred" and value == step


def is_closed_tree(walker, value):
    """Return whether any value is a closed tree of the question of a walker."""
    judge = TreeJudge(walker)
    return judge.takes_items(value)


def is_path_told(store, question, chain, policies):
    """Return whether any two values are a path, and what its walk lets, unchecked."""
    return is_hanging(store, question, chain) and is_alike(("path", policies), walk_told(store, question, chain))


def is_built(walker, store, value):
    """Return whether any value is what may be built for the question of a walker through a store."""
    if is_tuple(value, 3, 3) and value[0] == "path":
        return is_path_told(store, walker.question, value[1], value[2])
    return is_tuple(value, 2, 2) and value[0] == "none" and is_closed_tree(walker, value[1])


def takes_tree(store, question, value):
    """Return whether any value is a closed tree."""
    check_store(store)
    check_question(store, question)
    return is_closed_tree(Walker(store, question), value)


def takes_built(store, question, value):
    """Return whether any value is a path and what the walk lets of it, or a closed tree."""
    check_store(store)
    check_question(store, question)
    return is_built(Walker(store, question), store, value)
