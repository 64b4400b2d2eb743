"""The judge of trees and of what is built: [34], [35], [84], and that nothing is taken of both sorts ([3])."""

import random

from chainpapers.builder import built, built_whole
from chainpapers.errors import InvalidQuestion, InvalidStore
from chainpapers.sealing import sealed_certificate
from chainpapers.treepapers import takes_built, takes_tree
from tests.rings import AT_HOME, ring_store
from tests.routes import Route
from tests.support import ANY_VALUES, Case, spoiled
from tests.test_builder import told_paths
from tests.test_walkstates import NO_QUESTIONS, NO_STORES
from tests.things import with_item
from tests.told_trees import told_takes, told_tree, words_of
from tests.worlds import worlds

KNOT = ("knot", ())
OPEN_ANCHOR = (AT_HOME, 5, (), (), -1)


def changed(source, value):
    """A tree with something left out, put in, in another order, or another word or number at some place."""
    if isinstance(value, tuple) and value and source.random() < 0.85:
        at = source.randrange(len(value))
        if source.random() < 0.8:
            return with_item(value, at, changed(source, value[at]))
        other = source.randrange(len(value))
        return source.choice((
            value[:at] + value[at + 1:], value[:at] + (value[at],) + value[at:], value + (value[at],), value[:at],
            with_item(with_item(value, at, value[other]), other, value[at])))
    if isinstance(value, int):
        return source.choice((value + 1, value - 1, -1, 0, True, str(value)))
    if isinstance(value, str):
        return source.choice(("again", "long", "barred", "as", "knot", "name", "time", "odd", "", 0))
    return source.choice((("again",), ("long",), ("barred", "odd"), ("as", 0), ("as", 1), KNOT, ()))


def head(serial, issuer, subject, **parts):
    """A head behind a name, its key being that of its own name."""
    keys = {"r": 5, "a": 6, "b": 7, "t": 9}
    held = tuple(sorted({"basic": (True, -1), **parts}.items()))
    return sealed_certificate((serial, (issuer,), (subject,), keys[subject], keys[issuer], 0, 900, held, 0))


def scene(certificates, anchors=(OPEN_ANCHOR,), numbers=(-1, -1, -1), most=8):
    """A store with these certificates and a target behind "b" that is odd; and the indices of them all, in their order."""
    target = head(900, "b", "t", odd=(True, "w"))
    store = (tuple(sorted(certificates + [target])), (), tuple(sorted(anchors)))
    at = [store[0].index(one) for one in certificates + [target]]
    return store, (at[-1], 50, (), (), (), ("any",), ("no", 0) + numbers, most, ()), at


class Trees(Case):
    def test_told_trees_and_spoiled_ones(self):
        source = random.Random(1)
        seen = {True: 0, False: 0}
        words = set()
        for store, question in worlds(400):
            for _ in range(25 if told_tree(store, question) is not None else 0):
                closed = told_tree(store, question, lambda numbers: source.choice([None] + numbers))
                self.assertIs(takes_tree(store, question, closed), True, (store, question, closed))
                self.assertIs(takes_built(store, question, ("none", closed)), True)
                words |= set(dict(words_of(closed)))
                other = changed(source, closed)
                told = told_takes(store, question, other)
                self.assertIs(takes_tree(store, question, other), told, (store, question, closed, other))
                self.assertIs(takes_built(store, question, ("none", other)), told)
                seen[told] += repr(other) != repr(closed)
        self.assertGreater(seen[False], 500)
        self.assertGreater(seen[True], 3)
        self.assertLessEqual({"again", "long", "as", "name", "withdrawn", "policies"}, words)

    def test_all_spoiled(self):
        for store, question in (ring_store(2, 8), ring_store(2, 1), ring_store(3, 2)):
            tree = told_tree(store, question)
            self.assertIs(takes_tree(store, question, tree), True)
            for other in spoiled(tree):
                self.assertIs(takes_tree(store, question, other), False, other)
                self.assertIs(takes_built(store, question, ("none", other)), False)

    def test_any_values(self):
        store, question = ring_store(2, 8)
        for value in ANY_VALUES:
            self.assertIs(takes_tree(store, question, value), False)
            for told in (value, ("none", value), ("path", value, ()), ("path", (0, (0,)), value), ("path", value), (value, value)):
                self.assertIs(takes_built(store, question, told), False)
        route = Route(2).asked()
        for value in ANY_VALUES:
            self.assertIs(takes_built(route[0], route[1], ("path", (0, route[3]), value)), repr(value) == repr(("p",)))
            self.assertIs(takes_tree(route[0][:2] + ((),), route[1], value), repr(value) == "()")

    def test_paths(self):
        """All paths are taken with what is let, and nothing else is."""
        source = random.Random(2)
        paths = 0
        for store, question in worlds(200):
            told = [("path", chain, let) for chain, let in told_paths(store, question)]
            for value in told[:20]:
                paths += 1
                self.assertIs(takes_built(store, question, value), True)
                self.assertIs(takes_tree(store, question, value), False)
                for other in list(spoiled(value)) + [changed(source, value) for _ in range(10)]:
                    self.assertIs(takes_built(store, question, other), repr(other) in [repr(one) for one in told], other)
        self.assertGreater(paths, 100)

    def test_trees_in_which_the_target_is_let(self):
        store, question, anchor, path = Route(2).asked()
        for item in (("let", ("p",)), ("barred", "policies"), ("barred", ("p",)), ("let",), ("again",), ("long",), KNOT, ("as", 0), ("as", 1)):
            tree = (("knot", ((path[0], ("knot", ((path[1], item),))),)),)
            self.assertIs(takes_tree(store, question, tree), False, item)

    def test_words_of_what_is_built(self):
        store, question = ring_store(2, 8)
        tree = told_tree(store, question)
        for word in ("none", "path", "some", "", "knot", "None", None, 0, ("none",)):
            self.assertIs(takes_built(store, question, (word, tree)), word == "none", word)
        store, question, anchor, path = Route(2).asked()
        for word in ("path", "none", "let", "barred", "", None):
            self.assertIs(takes_built(store, question, (word, (anchor, path), ("p",))), word == "path", word)

    def test_nothing_of_both_sorts(self):
        """Where there is a path no tree is taken: that of another question, say, or one that leaves out what is let."""
        for store, question in worlds(300):
            if told_paths(store, question):
                for other in range(len(store[0])):
                    found = built_whole(store, (other,) + question[1:])
                    if found[0] == "none":
                        self.assertIs(takes_tree(store, question, found[1]), False)
                for names in ((("house", ("none", "has")),), question[4]):
                    found = built(store, with_item(question, 4, names))
                    self.assertIs(found[0] == "none", names != question[4])
                    self.assertIs(takes_built(store, question, found), found[0] == "path")
            else:
                self.assertIs(takes_built(store, question, ("path", (0, (question[0],)), ())), False)


class As(Case):
    def takes(self, store, question, *items):
        told = told_takes(store, question, items)
        self.assertIs(takes_tree(store, question, items), told)
        return told

    def test_knots_behind_another_anchor(self):
        """A knot may stand as that of another anchor of the same name and key, ahead of it, whose state is laxer."""
        x, xy, y = ("house", ("x",)), ("house", ("x", "y")), ("house", ("y",))
        for one, other, told in (
                (((), (), -1), ((), (), 3), True), (((), (), 2), ((), (), 3), False), (((), (), -1), ((x,), (), -1), True),
                (((), (x,), -1), ((), (x, y), -1), True), (((), (x,), -1), ((), (xy,), -1), False), (((), (x,), -1), ((), (y,), -1), False),
                (((x,), (), -1), ((xy,), (), -1), True), (((x,), (), -1), ((x, y), (), -1), False), (((), (), 8), ((x,), (), 7), True),
                (((), (), 7), ((x,), (), 8), False), (((), (), 7), ((x,), (), -1), False)):
            anchors = ((AT_HOME, 5) + one, (AT_HOME, 5) + other)
            store, question, at = scene([head(1, "r", "b")], anchors)
            self.assertEqual(store[2], anchors)
            inner = ("knot", ((at[1], ("barred", "odd")),))
            first = ("knot", ((at[0], inner),))
            for place in (("as", 0), ("knot", ((at[0], ("as", 1)),))):
                self.assertIs(self.takes(store, question, first, place), told, (one, other, place))
            self.assertIs(self.takes(store, question, first, first), True)
            for wrong in (("as", 1), ("as", -1), ("as", 2), ("as", False), ("as", None), ("as",), ("as", 0, 0), ["as", 0], ("as", "0"),
                          ("knot", ((at[0], ("as", 0)),)), ("knot", ((at[0], ("as", 2)),)), ("knot", ((at[0], ("as", True)),))):
                self.assertIs(self.takes(store, question, first, wrong), False, wrong)
            self.assertIs(self.takes(store, question, ("as", 0), first), False)
            self.assertIs(self.takes(store, question, ("as", 1), first), False)

    def test_an_anchor_of_another_name_or_key(self):
        for other in ((("r",), 6, (), (), -1), (("s",), 5, (), (), -1)):
            store, question, _ = scene([head(1, "a", "b")], (OPEN_ANCHOR, other))
            self.assertIs(self.takes(store, question, KNOT, KNOT), True)
            self.assertIs(self.takes(store, question, KNOT, ("as", 0)), False)

    def test_a_ring(self):
        """r seals itself, by two certificates; the same ones in another order, or more of them, may stand as met."""
        store, question, (one, two, _) = scene([head(1, "r", "r"), head(2, "r", "r")])
        self.assertEqual((one, two), (0, 1))
        again, inner = ("again",), ("knot", ((0, ("again",)), (1, ("again",))))
        first = ("knot", ((0, again), (1, inner)))
        for second, told in (
                (("knot", ((0, inner), (1, again))), True), (("knot", ((0, ("as", 1)), (1, again))), True),
                (("knot", ((0, ("as", 2)), (1, again))), False), (("knot", ((0, ("as", 0)), (1, again))), False),
                (("knot", ((0, ("as", 3)), (1, again))), False), (("as", 2), False), (("as", 1), False), (("as", 0), False)):
            self.assertIs(self.takes(store, question, ("knot", ((0, first), (1, second)))), told, second)

    def test_indices_that_the_other_one_lacks(self):
        """Of two ways to the same certificate neither may stand as the other one."""
        store, question, (one, two, last, target) = scene([head(1, "r", "a"), head(2, "r", "a"), head(3, "a", "b")])
        inner = ("knot", ((last, ("knot", ((target, ("barred", "odd")),))),))
        tree = ("knot", ((one, inner), (two, inner)))
        self.assertIs(self.takes(store, question, tree), True)
        for number in range(5):
            self.assertIs(self.takes(store, question, ("knot", ((one, inner), (two, ("as", number))))), False)
            self.assertIs(self.takes(store, question, ("knot", ((one, inner), (two, ("knot", ((last, ("as", number)),)))))), False)

    def test_fewer_indices_that_are_met_behind(self):
        """(0, 1) lacks nothing of (1,), but has one index more, so that (1,) may not stand as it."""
        store, question, _ = scene([head(1, "r", "r"), head(2, "r", "r")])
        first = ("knot", ((0, ("again",)), (1, ("knot", ((0, ("again",)), (1, ("again",)))))))
        self.assertIs(self.takes(store, question, ("knot", ((0, first), (1, ("as", 2))))), False)

    def test_stricter_policies(self):
        """(1, 0) may stand as (0,), unless 1 maps something to what 0 has."""
        for parts, others, told in (({}, {}, True), ({"policies": ("p",)}, {"policies": ("p", "q")}, True),
                                    ({"policies": ("any",)}, {"policies": ("p",)}, True),
                                    ({"policies": ("p",)}, {"policies": ("any",), "mappings": (("a", "p"),)}, False),
                                    ({"policies": ("p",)}, {"policies": ("any",), "mappings": (("p", "a"),)}, True),
                                    ({"policies": ("any",)}, {"policies": ("any",), "mappings": (("p", "a"),)}, False),
                                    ({"policies": ("any",)}, {"policies": ("any",), "policylimits": (8, 0)}, True),
                                    ({"policies": ("any",)}, {"policies": ("any",), "excluded": (("house", ("x",)),)}, True)):
            one, two = head(1, "r", "r", **parts), head(2, "r", "r", **others)
            store, question, _ = scene([one, two])
            again, inner = ("again",), ("knot", ((0, ("again",)), (1, ("again",))))
            first = ("knot", ((0, again), (1, inner)))
            self.assertIs(self.takes(store, question, ("knot", ((0, first), (1, ("knot", ((0, inner), (1, again))))))), True)
            as_met = ("knot", ((0, first), (1, ("knot", ((0, ("as", 1)), (1, again))))))
            self.assertIs(self.takes(store, question, as_met), told, (parts, others))

    def test_more_than_one_that_would_apply(self):
        """Ahead of all else "again" is told, then "long", then what bars: no knot is looked at where these apply."""
        bad = head(2, "r", "r", odd=(True, "w"))
        for most in (1, 2, 8):
            store, question, _ = scene([head(1, "r", "r"), bad], most=most)
            items = {1: ("long",), 2: ("barred", "odd"), 8: ("barred", "odd")}
            tree = ("knot", ((0, ("knot", ((0, ("again",)), (1, items[most])))), (1, ("barred", "odd"))))
            self.assertIs(self.takes(store, question, tree), True)
            for at, items in ((0, (("long",), ("barred", "odd"), ("as", 1), ("as", 0), KNOT)),
                              (1, (("long",), ("barred", "odd"), ("barred", "seal"), ("again",), ("as", 0), ("as", 1), KNOT))):
                for item in items:
                    inner = tree[1][0][1][1]
                    told = inner[at][1] == item
                    changed_inner = with_item(inner, at, (at, item))
                    other = ("knot", ((0, ("knot", changed_inner)), tree[1][1]))
                    self.assertIs(self.takes(store, question, other), told, (most, at, item))

    def test_errors(self):
        store, question, _, _ = Route(2).asked()
        for function in (takes_tree, takes_built):
            self.checks(function, (store, question, ()), [(NO_STORES, InvalidStore), (NO_QUESTIONS, InvalidQuestion), None])
