"""What is built for a question: a path, or a closed tree, which shows that there is none."""

from chainpapers.stores import check_question, check_store
from chainpapers.trees import AGAIN, LONG, Knots
from chainpapers.walker import Walker


class Builder:
    """Builds a tree until it meets a path, which is the attribute found then."""

    def __init__(self, walker, tells_all):
        self.walker = walker
        self.tells_all = tells_all
        self.knots = Knots(walker)
        self.found = None

    def result(self):
        """Return ("path", chain, policies let), or, if there is no path, ("none", tree)."""
        items = []
        for anchor in range(len(self.walker.anchors)):
            items.append(self.knot_item((anchor, (), self.walker.begin(anchor))))
            if self.found is not None:
                return ("path",) + self.found
        return ("none", tuple(items))

    def knot_item(self, knot):
        """Return the item of a knot, or None once a path is found."""
        number = None if self.tells_all else self.knots.number_as(knot)
        if number is not None:
            return ("as", number)
        self.knots.meet(knot)
        children = []
        for index in self.walker.fitting(knot[0], knot[1]):
            children.append((index, self.child_item(knot, index)))
            if self.found is not None:
                return None
        return ("knot", tuple(children))

    def child_item(self, knot, index):
        """Return the item of a certificate behind a knot, or None once a path is found."""
        anchor, indices, spot = knot
        if index in indices:
            return AGAIN
        if len(indices) == self.walker.question[7]:
            return LONG
        step = self.walker.step(spot, index, index == self.walker.question[0])
        if step[0] == "barred":
            return step
        if step[0] == "on":
            return self.knot_item((anchor, indices + (index,), step[1]))
        self.found = ((anchor, indices + (index,)), step[1])
        return None


def built_by(walker, tells_all):
    """Return what is built for the question of a walker."""
    builder = Builder(walker, tells_all)
    return builder.result()


def built(store, question):
    """Return ("path", chain, policies let) with any path, or, if there is none, ("none", tree) with any closed tree."""
    check_store(store)
    check_question(store, question)
    return built_by(Walker(store, question), False)


def built_whole(store, question):
    """Return the same with the closed tree in which no knot stands as another one."""
    check_store(store)
    check_question(store, question)
    return built_by(Walker(store, question), True)
