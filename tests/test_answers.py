"""Answers to questions: [40], [41], [94], and that there is a path if and only if one is answered ([3])."""

import random
import time

from chainpapers.answers import answered, cut_words, takes
from chainpapers.errors import InvalidQuestion, InvalidStore
from chainpapers.hangingchains import walk_of
from tests.bounds import bound_question, bound_store
from tests.rings import ring_store
from tests.routes import SPOILERS, Route, reasons_at
from tests.support import ANY_VALUES, Case, spoiled
from tests.test_builder import told_paths
from tests.test_treepapers import changed
from tests.test_walkstates import NO_QUESTIONS, NO_STORES
from tests.things import with_item
from tests.told_trees import told_takes, told_tree, words_of
from tests.worlds import worlds


def told_is_answer(store, question, value):
    """Whether a value is an answer, in the document's words."""
    if not isinstance(value, tuple) or len(value) < 2:
        return False
    if len(value) == 2 and value[0] == "none":
        return told_takes(store, question, value[1])
    return repr(value) in [repr(("path", chain, let)) for chain, let in told_paths(store, question)]


class Answers(Case):
    def test_worlds(self):
        words = set()
        for store, question in worlds(500):
            paths = told_paths(store, question)
            found = self.keeps(answered, store, question)
            self.assertIs(takes(store, question, found), True)
            self.assertIs(told_is_answer(store, question, found), True)
            self.assertEqual(found[0], "path" if paths else "none")
            counted = self.keeps(cut_words, store, question)
            if paths:
                self.assertEqual(walk_of(store, question, found[1]), ("path", found[2]))
                self.assertIsNone(counted)
            else:
                self.check_words(store, question, counted, found[1])
                words |= set(dict(counted))
        self.assertLessEqual({"again", "long", "as", "time", "withdrawn", "unknown", "name", "policy", "policies", "use"}, words)

    def check_words(self, store, question, counted, tree):
        """The words are those of some closed tree: that which is answered, the whole one, or one by other choices."""
        source = random.Random(1)
        trees = [tree, told_tree(store, question), told_tree(store, question, lambda numbers: numbers[0])]
        trees += [told_tree(store, question, lambda numbers: source.choice([None] + numbers)) for _ in range(5)]
        self.assertIn(counted, [words_of(one) for one in trees])

    def test_words_of_each_sort(self):
        for many in (1, 2, 3):
            for place in range(many):
                for reason in reasons_at(Route(many), place):
                    route = Route(many)
                    SPOILERS[reason](route, place)
                    store, question, _, _ = route.asked()
                    told = () if reason in ("issuer", "key") else ((reason, 1),)
                    self.assertEqual(cut_words(store, question), told, (many, place, reason))
        store, question, _, _ = Route(2).asked()
        self.assertEqual(cut_words(store, with_item(question, 7, 1)), (("long", 1),))

    def test_words_of_rings(self):
        store, question = ring_store(1, 8)
        self.assertEqual(cut_words(store, question), (("again", 1), ("odd", 2)))
        store, question = ring_store(1, 1)
        self.assertEqual(cut_words(store, question), (("again", 1), ("long", 1), ("odd", 1)))
        store, question = ring_store(2, 8)
        whole = (("again", 6), ("odd", 5))
        short = (("again", 4), ("as", 1), ("odd", 4))
        self.assertEqual(words_of(told_tree(store, question)), whole)
        self.assertIn(cut_words(store, question), (whole, short))

    def test_stores_without_anchors(self):
        store, question, _, path = Route(2).asked()
        store = store[:2] + ((),)
        self.assertEqual((answered(store, question), cut_words(store, question)), (("none", ()), ()))
        self.assertEqual([takes(store, question, value) for value in (("none", ()), ("none", (("knot", ()),)), ("path", (0, path), ()))],
                         [True, False, False])

    def test_spoiled_answers(self):
        source = random.Random(3)
        seen = {"path": 0, "none": 0}
        for store, question in worlds(150):
            found = answered(store, question)
            values = [changed(source, found) for _ in range(10)] + list(spoiled(found))[:20]
            for value in values:
                self.assertIs(takes(store, question, value), told_is_answer(store, question, value), value)
            seen[found[0]] += 1
        self.assertGreater(min(seen.values()), 30)

    def test_answers_of_another_question(self):
        seen = set()
        for store, question in worlds(120):
            found = answered(store, question)
            for at, values in ((0, range(len(store[0]))), (1, (20, 80)), (2, (("lists",),)), (4, ((("number", 3),),)), (7, (1, 2, 8))):
                for value in values:
                    other = with_item(question, at, value)
                    told = told_is_answer(store, other, found)
                    self.assertIs(takes(store, other, found), told)
                    seen.add((found[0], told, other == question))
        self.assertLessEqual({("path", False, False), ("none", False, False), ("none", True, False), ("path", True, False)}, seen)

    def test_any_values(self):
        store, question, _, path = Route(2).asked()
        for value in ANY_VALUES:
            self.assertIs(takes(store, question, value), False)
        told = ("path", (0, path), ("p",))
        self.assertIs(takes(store, question, told), True)
        for other in (told[:2], told + ((),), list(told), ("none",) + told[1:], ("path", list(told[1]), told[2]), ("path", told[1], ()),
                      ("path", told[1], ("any",)), ("path", (False, path), ("p",)), ("path", (0, path[::-1]), ("p",))):
            self.assertIs(takes(store, question, other), False)

    def test_bound(self):
        store = bound_store()
        question = bound_question(store, "may")
        begin = time.process_time()
        found = answered(store, question)
        self.assertIs(takes(store, question, found), True)
        self.assertEqual([word for word, _ in cut_words(store, question) if word != "as"][-1:], ["wanted"])
        self.assertLess(time.process_time() - begin, 40)

    def test_errors(self):
        store, question, _, _ = Route(2).asked()
        own = [(NO_STORES, InvalidStore), (NO_QUESTIONS, InvalidQuestion)]
        for function in (answered, cut_words):
            self.checks(function, (store, question), own)
        self.checks(takes, (store, question, ()), own + [None])
