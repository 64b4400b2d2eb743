"""Titles, and what subtrees hold: [11], [54]."""

from chainpapers.errors import InvalidName, InvalidSubtree
from chainpapers.subtrees import holds, is_title, is_within
from tests.support import Case, odd_values
from tests.titles import subtrees_of, titles_of, told_holds

FOUR = ("a", "b", "c", "d")
NUMBERS = (0, 1, 2, 3, 65534, 65535)


class Titles(Case):
    def test_titles(self):
        good = [("house", ("a",)), ("house", FOUR), ("letter", "me", ("a",)), ("letter", "me", FOUR), ("number", 0),
                ("number", 65535), ("name", ("a",)), ("name", FOUR)]
        bad = [("house", ()), ("house", FOUR + ("e",)), ("letter", "", ("a",)), ("letter", "me", ()), ("number", -1),
               ("number", 65536), ("number", 1, 2), ("name", ()), ("name", FOUR + ("e",)), ("name", ("A",)),
               ("name", ("a",), ()), ("name",), ("other", ("a",)), ("name", "a")]
        self.takes_just(is_title, good, bad)
        self.takes_no_spoiled(is_title, good)


class Holding(Case):
    def test_each_subtree_and_title(self):
        titles = titles_of(("x", "y"), ("me", "you"), NUMBERS, 3) + [("house", ("x",) * 4), ("letter", "me", ("x",) * 4)]
        subtrees = subtrees_of(("x", "y"), ("", "me"), NUMBERS, 3) + [("house", ("x",) * 4), ("letter", "", ("x",) * 4)]
        for subtree in subtrees:
            for title in titles:
                self.assertIs(holds(subtree, title), told_holds(subtree, title), (subtree, title))

    def test_by_hand(self):
        for subtree, title, is_held in (
                (("house", ()), ("house", ("a",)), True), (("house", ()), ("name", ("a",)), False),
                (("name", ("a",)), ("name", ("a", "b")), True), (("name", ("a",)), ("name", ("b", "a")), False),
                (("house", ("a", "b")), ("house", ("a",)), False), (("house", ("a",)), ("house", ("ab",)), False),
                (("letter", "", ()), ("letter", "me", ("a",)), True), (("letter", "me", ()), ("letter", "me", ("a",)), False),
                (("letter", "", ("a",)), ("letter", "me", ("a", "b")), True),
                (("letter", "me", ("a",)), ("letter", "me", ("a",)), True),
                (("letter", "me", ("a",)), ("letter", "you", ("a",)), False),
                (("letter", "me", ("a",)), ("letter", "me", ("a", "b")), False),
                (("letter", "", ("a",)), ("house", ("a",)), False), (("number", 0, 0), ("number", 0), True),
                (("number", 0, 65535), ("number", 65535), True), (("number", 1, 65534), ("number", 0), False),
                (("number", 1, 65534), ("number", 65535), False), (("number", 5, 5), ("number", 4), False)):
            self.assertIs(self.keeps(holds, subtree, title), is_held, (subtree, title))

    def test_within(self):
        # One word, one box and a few numbers more than the subtrees have show what only all titles would show.
        titles = titles_of(("x", "y"), ("me", "us", "you"), NUMBERS, 3) + [("house", ("x",) * 4), ("letter", "us", ("x",) * 4)]
        subtrees = subtrees_of(("x",), ("", "me", "you"), (0, 2, 65535), 3)
        held = {subtree: {title for title in titles if told_holds(subtree, title)} for subtree in subtrees}
        for one in subtrees:
            for other in subtrees:
                self.assertIs(is_within(one, other), held[one] <= held[other], (one, other))

    def test_within_by_hand(self):
        for one, other, is_so in (
                (("letter", "me", ()), ("letter", "you", ("a",)), True), (("letter", "me", ()), ("house", ()), True),
                (("letter", "me", ()), ("letter", "me", ()), True), (("letter", "me", ("a",)), ("letter", "me", ()), False),
                (("letter", "", ()), ("letter", "me", ()), False), (("letter", "", FOUR), ("letter", "me", FOUR), False),
                (("letter", "me", FOUR), ("letter", "", FOUR), True), (("letter", "me", FOUR), ("letter", "me", FOUR), True),
                (("letter", "me", FOUR), ("letter", "you", FOUR), False), (("house", ()), ("name", ()), False),
                (("house", FOUR), ("house", ()), True), (("house", ()), ("house", FOUR), False),
                (("name", FOUR), ("name", FOUR), True), (("number", 3, 4), ("number", 3, 4), True),
                (("number", 3, 4), ("number", 4, 4), False), (("number", 3, 4), ("number", 3, 3), False),
                (("number", 1, 1), ("number", 0, 65535), True), (("number", 0, 65535), ("house", ()), False)):
            self.assertIs(self.keeps(is_within, one, other), is_so, (one, other))

    def test_errors(self):
        no_subtrees = odd_values() + [("house",), ("number", 3, 2), ["house", ()]]
        no_titles = odd_values() + [("house", ()), ("letter", "", ("a",)), ("number", True)]
        self.checks(holds, (("house", ()), ("name", ("a",))), [(no_subtrees, InvalidSubtree), (no_titles, InvalidName)])
        self.checks(is_within, (("house", ()), ("name", ())),
                    [(no_subtrees, InvalidSubtree), (no_subtrees, InvalidSubtree)])
