"""Several targets, and needed certificates: [36], [87], and what [3] says of needed ones."""

import time

from chainpapers.builder import built
from chainpapers.errors import InvalidQuestion, InvalidStore, InvalidTargets
from chainpapers.storechanges import without_certificate
from chainpapers.targets import built_each, needed, reached
from chainpapers.treepapers import takes_built
from tests.bounds import bound_question, bound_store
from tests.routes import Route
from tests.support import Case, odd_values
from tests.test_builder import told_paths
from tests.test_treepapers import head, scene
from tests.test_walkstates import NO_QUESTIONS, NO_STORES
from tests.worlds import worlds


def with_target(question, index):
    return (index,) + question[1:]


class Targets(Case):
    def test_built_each(self):
        sorts = set()
        for store, question in worlds(200):
            for targets in [tuple(range(len(store[0])))] + [(index,) for index in range(len(store[0]))]:
                found = self.keeps(built_each, store, question, targets)
                self.assertEqual(len(found), len(targets))
                for index, told in zip(targets, found):
                    self.assertIs(takes_built(store, with_target(question, index), told), True)
                    self.assertEqual(told[0], built(store, with_target(question, index))[0])
                sorts.add(tuple(told[0] for told in found))
        self.assertLessEqual({("path",), ("none",), ("path", "path"), ("none", "none"), ("path",) * 6, ("path", "none")}, sorts)

    def test_six_at_once_and_one_by_one(self):
        store, question, _, path = Route(8).asked()
        for targets in ((0, 1, 2, 3, 4, 5), (2, 4, 5, 6, 7, 8), (8,), (0, 8)):
            found = built_each(store, question, targets)
            for index, told in zip(targets, found):
                if index in path:
                    self.assertEqual(told, ("path", (0, path[:path.index(index) + 1]), ("p",)))
                else:
                    self.assertEqual(told[0], "none")
                self.assertEqual((told,), built_each(store, question, (index,)))

    def test_reached(self):
        found = set()
        for store, question in worlds(300):
            told = tuple(index for index in range(len(store[0])) if told_paths(store, with_target(question, index)))
            self.assertEqual(self.keeps(reached, store, question), told, (store, question))
            found.add(len(told))
        self.assertLessEqual({0, 1, 2, 3, 4}, found)

    def test_reached_one_after_the_other(self):
        for many in range(1, 9):
            for most in (1, 3, 8):
                route = Route(many)
                route.most = most
                store, question, _, path = route.asked()
                self.assertEqual(reached(store, question), path[:most])

    def test_what_only_a_target_may_be(self):
        """A certificate that is no head may be a target, and a self-issued one is asked for its names only there."""
        store, question, (one, two, target) = scene([head(1, "r", "a"), head(2, "a", "b", basic=(False, -1))])
        self.assertEqual(reached(store, question), (one, two))
        anchors = ((("r",), 5, (), (("name", ("r",)),), -1),)
        store, question, (one, two, target) = scene([head(1, "r", "r"), head(2, "r", "a")], anchors)
        self.assertEqual(reached(store, question), (two,))
        self.assertEqual(built_each(store, question, (one, two))[0], ("none", (("knot", ((one, ("barred", "name")), (two, ("knot", ())))),)))

    def test_needed(self):
        lots = set()
        for store, question in worlds(300):
            paths = told_paths(store, question)
            told = None
            if paths:
                told = tuple(index for index in range(len(store[0])) if all(index in chain[1] for chain, _ in paths))
                self.assertIn(question[0], told)
            self.assertEqual(self.keeps(needed, store, question), told)
            lots.add((min(len(paths), 2), None if told is None else min(len(told), 3)))
            if paths:
                self.check_without(store, question, told)
        self.assertLessEqual({(0, None), (1, 1), (1, 2), (1, 3), (2, 1), (2, 2)}, lots)

    def check_without(self, store, question, told):
        """A certificate is needed if there is no path in the store without it."""
        for index in range(len(store[0])):
            if index != question[0]:
                target = question[0] - (index < question[0])
                found = built(without_certificate(store, index), with_target(question, target))
                self.assertEqual(found[0] == "none", index in told)

    def test_needed_by_hand(self):
        ways = [head(1, "r", "a"), head(2, "r", "a"), head(3, "a", "b")]
        store, question, (one, two, last, _) = scene(ways)
        question = with_target(question, last)
        self.assertEqual(needed(store, question), (last,))
        for at, less in ((one, (0, 1)), (two, (0, 1))):
            self.assertEqual(needed(without_certificate(store, at), with_target(question, 1)), less)
        self.assertEqual(needed(store, with_target(question, one)), (one,))
        self.assertIsNone(needed(store, question[:1] + (901,) + question[2:]))

    def test_bound(self):
        store = bound_store()
        begin = time.process_time()
        question = bound_question(store, "no", True)
        self.assertEqual(reached(store, question), tuple(range(30)))
        self.assertEqual(needed(store, question), (question[0],))
        self.assertIsNone(needed(store, bound_question(store)))
        built_each(store, bound_question(store), (0, 5, 10, 15, 20, 25))
        self.assertLess(time.process_time() - begin, 40)

    def test_errors(self):
        store, question, _, _ = Route(2).asked()
        own = [(NO_STORES, InvalidStore), (NO_QUESTIONS, InvalidQuestion)]
        for function in (reached, needed):
            self.checks(function, (store, question), own)
        wrong = odd_values((0,)) + [(-1,), (3,), (1, 0), (0, 0), [0], (0, "a"), (False,), (0, 1, 2, 3)]
        self.checks(built_each, (store, question, (0,)), own + [(wrong, InvalidTargets)])
        store, question, _, _ = Route(8).asked()
        self.raises(InvalidTargets, built_each, store, question, tuple(range(7)))
        self.assertEqual(len(built_each(store, question, tuple(range(6)))), 6)
