"""Words, names, other names and subtrees: [4], [42]."""

from chainpapers.names import is_name, is_other_name, is_subtree
from tests.support import Case

WORDS = ("a", "z", "0", "9", "a1", "abcdefghijkl", "any", "000000000000")
NO_WORDS = ("", "abcdefghijklm", "A", "a b", "a-b", " a", "a\n", "@a", "a/", "_", "{", "`", ":", "a" * 20000)
FOUR = ("a", "b", "c", "d")


class Names(Case):
    def test_names(self):
        good = [(word,) for word in WORDS] + [FOUR, ("a", "a"), ("b", "a"), ("root", "web", "x")]
        self.takes_just(is_name, good + [("a",), ("a", "b")],
                        [(word,) for word in NO_WORDS] + [(), FOUR + ("e",), ("a", ""), ("", "a"), "a", ("a", 1)])
        self.takes_no_spoiled(is_name, good)

    def test_other_names(self):
        good = [("house", ("a",)), ("house", FOUR), ("letter", "me", ("x",)), ("letter", "abcdefghijkl", FOUR),
                ("number", 0), ("number", 1), ("number", 65535)]
        bad = [("house", ()), ("house", FOUR + ("e",)), ("house", ("a", "")), ("house", "me", ("a",)), ("house",),
               ("letter", "", ("a",)), ("letter", "abcdefghijklm", ("a",)), ("letter", "me", ()), ("letter", ("a",)),
               ("letter", "me", FOUR + ("e",)), ("letter", "@me", ("x",)), ("letter", "me", ("x",), 1),
               ("number", -1), ("number", 65536), ("number", 1, 2), ("number", ()), ("number",),
               ("name", ("a",)), ("other", ("a",)), ("", ("a",)), ("house", ("a",), ()), ("letter",), ("other",),
               ("house", ("a",), 0, 0), ("letter", "me", ("a",), 0), ("number", 1, 0, 0)]
        self.takes_just(is_other_name, good, bad)
        self.takes_no_spoiled(is_other_name, good)

    def test_subtrees(self):
        good = [(kind, words) for kind in ("house", "name") for words in ((), ("a",), FOUR)]
        good += [("letter", box, words) for box in ("", "me", "abcdefghijkl") for words in ((), ("a",), FOUR)]
        good += [("number", 0, 0), ("number", 0, 65535), ("number", 65535, 65535), ("number", 3, 4)]
        bad = [(kind, words) for kind in ("house", "name") for words in (FOUR + ("e",), ("",), "a", 1, None)]
        bad += [("letter", "abcdefghijklm", ()), ("letter", "A", ()), ("letter", "", FOUR + ("e",)), ("letter", ("a",)),
                ("letter", "me", ("",)), ("letter", None, ()), ("letter", "", (), ()), ("number", 9, 3),
                ("number", -1, 3), ("number", 0, 65536), ("number", 65536, 65536), ("number", 7), ("number", 1, 2, 3),
                ("house", "", ()), ("name", 1, 2), ("house",), ("other", ()), ("letter",), ("number",), ("other",),
               ("house", (), 0, 0), ("letter", "", (), 0), ("number", 1, 2, 0)]
        self.takes_just(is_subtree, good, bad)
        self.takes_no_spoiled(is_subtree, good)
