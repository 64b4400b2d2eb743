"""What is built: [33] to [35], [83]."""

import time

from chainpapers.builder import built, built_whole
from chainpapers.errors import InvalidQuestion, InvalidStore
from chainpapers.hangingchains import walk_of
from chainpapers.treepapers import takes_built, takes_tree
from tests.bounds import bound_question, bound_store, count_tuples
from tests.rings import ring_store
from tests.routes import REASON_WORDS, SPOILERS, Route, reasons_at
from tests.support import Case, same
from tests.test_walkstates import NO_QUESTIONS, NO_STORES
from tests.told_trees import items_of, told_tree, words_of
from tests.worlds import all_hanging, worlds


def told_paths(store, question):
    """All paths, each with what is let, in order."""
    found = [(chain, walk_of(store, question, chain)) for chain in all_hanging(store, question)]
    return [(chain, told[1]) for chain, told in found if told[0] == "path"]


class Built(Case):
    def check_built(self, store, question):
        """Check what is built both ways; return the paths, and the words of the trees."""
        paths = told_paths(store, question)
        trees = []
        for function in (built, built_whole):
            found = self.keeps(function, store, question)
            self.assertIs(takes_built(store, question, found), True)
            if paths:
                self.assertIn(found[1:], paths)
                self.assertEqual((found[0], len(found)), ("path", 3))
            else:
                self.assertEqual((found[0], len(found)), ("none", 2))
                self.assertIs(takes_tree(store, question, found[1]), True)
                trees.append(found[1])
        if not paths:
            self.assertTrue(same(trees[1], told_tree(store, question)), (store, question))
            self.assertNotIn("as", dict(words_of(trees[1])))
        return paths, [words_of(tree) for tree in trees]

    def test_worlds(self):
        lengths, words = set(), set()
        for store, question in worlds(500):
            paths, found = self.check_built(store, question)
            lengths |= {len(chain[1]) for chain, _ in paths} | {len(paths)}
            words |= {word for tree in found for word, _ in tree}
        self.assertLessEqual({0, 1, 2, 3, 4, 5, 10}, lengths)
        self.assertEqual(words, set(REASON_WORDS) - {"issuer", "key"} | {"again", "long", "as"})

    def test_each_reason(self):
        """A single chain, spoiled at one place, has a tree that is as long as it is let."""
        for many in (1, 3, 8):
            for place in range(many):
                for reason in reasons_at(Route(many), place):
                    route = Route(many)
                    SPOILERS[reason](route, place)
                    store, question, _, path = route.asked()
                    tree = ("knot", ()) if reason in ("issuer", "key") else ("knot", ((path[place], ("barred", reason)),))
                    for index in reversed(path[:place]):
                        tree = ("knot", ((index, tree),))
                    self.assertEqual(built(store, question), ("none", (tree,)))
                    self.assertEqual(built_whole(store, question), ("none", (tree,)))

    def test_most(self):
        for many in range(1, 9):
            for most in range(1, 9):
                route = Route(many)
                route.most = most
                store, question, anchor, path = route.asked()
                if many <= most:
                    told = ("path", (anchor, path), ("p",))
                else:
                    tree = ("knot", ((path[most], ("long",)),))
                    for index in reversed(path[:most]):
                        tree = ("knot", ((index, tree),))
                    told = ("none", (tree,))
                self.assertEqual([built(store, question), built_whole(store, question)], [told, told])

    def test_stores_without_anchors(self):
        store, question, _, _ = Route(2).asked()
        store = store[:2] + ((),)
        self.assertEqual([built(store, question), built_whole(store, question)], [("none", ())] * 2)

    def test_stores_in_which_nothing_fits(self):
        store, question, _, _ = Route(2).asked()
        anchors = ((("q",), 5, (), (), -1), (("r",), 6, (), (), -1))
        told = ("none", (("knot", ()), ("knot", ())))
        self.assertEqual([built(store[:2] + (anchors,), question), built_whole(store[:2] + (anchors,), question)], [told, told])

    def test_rings(self):
        for many in (2, 3, 4):
            for most in (1, 2, 3, 4, 8):
                store, question = ring_store(many, most)
                found = built_whole(store, question)
                self.assertTrue(same(found, ("none", told_tree(store, question))))
                short = built(store, question)
                self.assertIs(takes_built(store, question, short), True)
                self.assertIs(takes_built(store, question, found), True)
                self.assertEqual("again" in dict(words_of(found[1])), True)
                self.assertEqual("long" in dict(words_of(found[1])), most <= many)

    def test_as_makes_trees_short(self):
        store, question = ring_store(5, 8)
        whole, short = built_whole(store, question)[1], built(store, question)[1]
        self.assertIn("as", dict(words_of(short)))
        sizes = [sum(1 for top in tree for _ in items_of(top)) for tree in (whole, short)]
        self.assertLess(sizes[1] * 2, sizes[0])

    def test_several_anchors_of_one_name_and_key(self):
        route = Route(2)
        store, question, _, path = route.asked()
        anchors = tuple(sorted((("r",), 5, (), (("name", ("r", f"n{at % 2}")),), at) for at in range(4)))
        store = store[:2] + (anchors,)
        self.assertEqual(built(store, question)[0], "none")
        self.check_built(store, question)
        for at, other in enumerate(((("q",), 5, (), (), -1), (("r",), 5, (), (("name", ("r", "z")),), -1), (("r",), 6, (), (), -1))):
            order = tuple(sorted(anchors[:3] + (other,)))
            paths, _ = self.check_built(store[:2] + (order,), question)
            self.assertEqual(paths, [((order.index(other), path), ("p",))] if at == 1 else [])

    def test_bound(self):
        """Just under 5,000 tuples, 30 certificates and 6 anchors, all of one name and key."""
        store = bound_store()
        self.assertEqual([len(things) for things in store], [30, 12, 6])
        self.assertTrue(4800 < count_tuples(store) <= 5000)
        for is_path in (False, True):
            question = bound_question(store, "must", is_path)
            for function in (built, built_whole):
                begin = time.process_time()
                found = function(store, question)
                self.assertEqual(found[0], "path" if is_path else "none")
                self.assertIs(takes_built(store, question, found), True)
                self.assertLess(time.process_time() - begin, 40)

    def test_errors(self):
        store, question, _, _ = Route(2).asked()
        for function in (built, built_whole):
            self.checks(function, (store, question), [(NO_STORES, InvalidStore), (NO_QUESTIONS, InvalidQuestion)])
