"""Chains that hang together, and their walks: [33], [82]."""

from chainpapers.errors import InvalidPath, InvalidQuestion, InvalidStore
from chainpapers.hangingchains import does_hang, walk_of
from chainpapers.walks import walk
from tests.routes import SPOILERS, Route
from tests.support import ANY_VALUES, Case, odd_values, spoiled
from tests.test_walkstates import NO_QUESTIONS, NO_STORES
from tests.things import with_item
from tests.worlds import all_hanging, worlds


def hung(route):
    store, question, anchor, path = route.asked()
    return store, question, (anchor, path)


class Hanging(Case):
    def test_routes(self):
        for many in range(1, 9):
            for selfs in ((), (0,), range(many)):
                store, question, chain = hung(Route(many, selfs))
                self.assertIs(self.keeps(does_hang, store, question, chain), True)
                self.assertEqual(self.keeps(walk_of, store, question, chain), ("path", ("p",)))

    def test_each_cause_by_itself(self):
        for place in range(3):
            for reason, told in (("issuer", False), ("key", False), ("seal", True), ("time", True), ("name", True)):
                route = Route(3)
                SPOILERS[reason](route, place)
                self.assertIs(does_hang(*hung(route)), told, (place, reason))

    def test_most(self):
        for many in range(1, 9):
            for most in range(1, 9):
                route = Route(many)
                route.most = most
                self.assertIs(does_hang(*hung(route)), many <= most)

    def test_targets(self):
        store, question, (anchor, path) = hung(Route(3))
        for index in range(len(store[0])):
            for many in (1, 2, 3):
                told = index == path[many - 1]
                self.assertIs(does_hang(store, (index,) + question[1:], (anchor, path[:many])), told, (index, many))

    def test_anchors(self):
        store, question, (_, path) = hung(Route(2))
        anchors = tuple(sorted((store[2][0], (("r",), 6, (), (), -1), (("s",), 5, (), (), -1), (("r",), 5, (), (), 3))))
        for at, one in enumerate(anchors):
            self.assertIs(does_hang(store[:2] + (anchors,), question, (at, path)), one[:2] == (("r",), 5))
        self.assertIs(does_hang(store[:2] + ((),), question, (0, path)), False)

    def test_indices_twice(self):
        """A self-issued certificate that fits behind itself."""
        route = Route(3, (1,))
        route.keys[2] = route.keys[1]
        route.sealers[2] = route.keys[1]
        store, question, (anchor, (one, ring, target)) = hung(route)
        self.assertIs(does_hang(store, question, (anchor, (one, ring, target))), True)
        self.assertIs(does_hang(store, question, (anchor, (one, target))), True)
        self.assertEqual(walk(store, question, anchor, (one, ring, ring, target)), ("let", ("p",)))
        for indices in ((one, ring, ring, target), (one, one, target), (one, ring, target, target)):
            self.assertIs(does_hang(store, question, (anchor, indices)), False)

    def test_order_and_gaps(self):
        store, question, (anchor, (one, two, target)) = hung(Route(3))
        for indices in ((two, one, target), (one, target), (two, target), (target,), (one, two), (one, target, two)):
            self.assertIs(does_hang(store, question, (anchor, indices)), False)

    def test_any_values(self):
        store, question, chain = hung(Route(3))
        for value in ANY_VALUES + list(spoiled(chain)) + [(0, ()), (0,), chain + (0,), (0, chain[1] + (99,)), (-1, chain[1]), (1, chain[1]),
                                                         (0, (-1,) + chain[1][1:]), (0, chain[1] * 3)]:
            self.assertIs(does_hang(store, question, value), False, str(value)[:99])
        store, question, chain = hung(Route(1))
        self.assertIs(does_hang(store, question, chain), True)
        self.assertIs(does_hang(store, question, (False, chain[1])), False)
        self.assertIs(does_hang(store, question, (0, (bool(chain[1][0]),))), False)

    def test_all_chains(self):
        told = set()
        for store, question in worlds(150, 5):
            hanging = all_hanging(store, question)
            for anchor, indices in hanging:
                self.assertIs(does_hang(store, question, (anchor, indices)), True)
                found = walk(store, question, anchor, indices)
                self.assertEqual(walk_of(store, question, (anchor, indices)), ("path",) + found[1:] if found[0] == "let" else found)
                told.add((found[0], len(indices)))
                for at, index in enumerate(indices):
                    for other in range(len(store[0])):
                        changed = (anchor, with_item(indices, at, other))
                        self.assertIs(does_hang(store, question, changed), changed in hanging)
        self.assertLessEqual({(word, many) for word in ("let", "barred") for many in (1, 2, 3)}, told)

    def test_errors(self):
        store, question, chain = hung(Route(2))
        own = [(NO_STORES, InvalidStore), (NO_QUESTIONS, InvalidQuestion)]
        self.checks(does_hang, (store, question, chain), own + [None])
        wrong = odd_values() + [(1, chain[1]), (0, chain[1][:1]), (0, chain[1][1:]), list(chain), (0, chain[1] + chain[1])]
        self.checks(walk_of, (store, question, chain), own + [(wrong, InvalidPath)])
        self.raises(InvalidPath, walk_of, store, question[:7] + (1, ()), chain)
