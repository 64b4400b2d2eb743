"""Lists of all paths, in order: [33], [85]."""

import time

from chainpapers.builder import built
from chainpapers.errors import InvalidQuestion, InvalidStore
from chainpapers.pathlists import least_path, paths_of
from tests.bounds import bound_question, bound_store
from tests.routes import Route
from tests.support import Case
from tests.test_builder import told_paths
from tests.test_treepapers import OPEN_ANCHOR, head, scene
from tests.test_walkstates import NO_QUESTIONS, NO_STORES
from tests.things import with_item
from tests.worlds import worlds


class Paths(Case):
    def test_worlds(self):
        many = set()
        for store, question in worlds(400):
            told = [chain for chain, _ in told_paths(store, question)]
            self.assertEqual(self.keeps(paths_of, store, question), told)
            self.assertEqual(self.keeps(least_path, store, question), told[0] if told else None)
            self.assertEqual(built(store, question)[0] == "path", bool(told))
            many.add(min(len(told), 6))
        self.assertEqual(many, set(range(7)))

    def test_by_how_many_then_as_pairs(self):
        """Two anchors, and ways of one to four certificates: the shorter ones first, whatever their anchor."""
        anchors = (OPEN_ANCHOR, OPEN_ANCHOR[:4] + (3,))
        certificates = [head(1, "r", "a"), head(2, "r", "a"), head(3, "a", "b"), head(4, "a", "a"), head(5, "b", "t"), head(0, "r", "t")]
        store, question, (one, two, last, ring, far, near, _) = scene(certificates, anchors)
        at, there = store[2].index(OPEN_ANCHOR), store[2].index(anchors[1])
        self.assertEqual((near, one, two, last, ring, far, at, there), (0, 1, 2, 3, 4, 5, 0, 1))
        ways = [(1, 3, 5), (2, 3, 5), (1, 4, 3, 5), (2, 4, 3, 5)]
        told = [(anchor, way) for many in (3, 4) for anchor in (0, 1) for way in ways if len(way) == many]
        self.assertEqual(paths_of(store, with_item(question, 0, far)), told)
        self.assertEqual(paths_of(store, with_item(question, 0, near)), [(0, (0,)), (1, (0,))])
        self.assertEqual(least_path(store, with_item(question, 0, far)), (0, (1, 3, 5)))
        self.assertEqual(paths_of(store, with_item(with_item(question, 0, far), 7, 3)), told[:4])
        self.assertEqual(paths_of(store, with_item(with_item(question, 0, far), 7, 2)), [])
        self.assertIsNone(least_path(store, with_item(with_item(question, 0, far), 7, 2)))

    def test_as_pairs_behind_several_anchors(self):
        """The index of the anchor comes first, then those of the certificates."""
        anchors = (OPEN_ANCHOR[:4] + (2,), (("a",), 6, (), (), -1))
        store, question, (one, two, three, _) = scene([head(1, "a", "b"), head(2, "r", "b"), head(3, "r", "b")], anchors)
        question = with_item(question, 0, three)
        self.assertEqual(store[2][0][0], ("a",))
        self.assertEqual(paths_of(store, question), [(1, (three,))])
        self.assertEqual(paths_of(store, with_item(question, 0, one)), [(0, (one,))])

    def test_one_to_eight(self):
        for many in range(1, 9):
            store, question, anchor, path = Route(many).asked()
            self.assertEqual(paths_of(store, question), [(anchor, path)])
            self.assertEqual(least_path(store, question), (anchor, path))
        self.assertEqual(paths_of(store[:2] + ((),), question), [])

    def test_bound(self):
        store = bound_store()
        question = bound_question(store, "no", True)
        begin = time.process_time()
        found = paths_of(store, question)
        self.assertGreater(len(found), 1000)
        self.assertEqual(found, sorted(found))
        self.assertEqual(least_path(store, question), found[0])
        self.assertEqual(paths_of(store, bound_question(store)), [])
        self.assertLess(time.process_time() - begin, 40)

    def test_errors(self):
        store, question, _, _ = Route(2).asked()
        for function in (paths_of, least_path):
            self.checks(function, (store, question), [(NO_STORES, InvalidStore), (NO_QUESTIONS, InvalidQuestion)])
