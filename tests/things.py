"""Certificates, lists, anchors, stores and questions for the tests."""

FULL_PARTS = (
    ("anylimit", 3),
    ("basic", (True, 2)),
    ("excluded", (("house", ("x",)), ("letter", "", ()), ("name", ()), ("number", 1, 9))),
    ("lists", (("root",), ("root", "lists"))),
    ("mappings", (("p", "q"), ("p", "r"))),
    ("names", (("house", ("a", "b")), ("letter", "me", ("a",)), ("number", 1))),
    ("odd", (True, "word")),
    ("permitted", (("house", ()), ("letter", "me", ("x",)))),
    ("policies", ("any", "p")),
    ("policylimits", (1, -1)),
    ("purposes", ("any", "sign")),
    ("uses", ("agree", "certs", "lists", "sign")),
)
PLAIN = (7, ("root",), ("root", "web"), 11, 5, 100, 200, (), 0)
FULL = (1, ("root",), ("root", "a1"), 1, 0, 0, 1, FULL_PARTS, 1)
SELF = (0, ("root",), ("root",), 5, 5, 0, 10 ** 9, (("basic", (True, -1)),), 2 ** 32 - 1)

ENTRIES = ((("root",), 1, 0, "hold"), (("root",), 7, 150, "key"))
WHOLE = (("root",), 5, 3, -1, 100, 200, ("all", False, ()), ENTRIES, 0)
DELTA = (("root",), 0, 5, 2, 1, 1, ("heads", True, ("hold", "key")),
         ((("b",), 1, 1, "back"), (("root",), 0, 1, "key")), 1)

SUBTREES = (("house", ("x",)), ("number", 0, 1))
ANCHOR = (("root",), 5, SUBTREES, (("name", ("root", "b")),), 1)
OPEN_ANCHOR = (("root",), 5, (), (), -1)

STORE = (tuple(sorted((PLAIN, FULL, SELF))), tuple(sorted((WHOLE, DELTA))), tuple(sorted((ANCHOR, OPEN_ANCHOR))))
EMPTY_STORE = ((), (), ())
QUESTION = (1, 150, ("certs", "sign"), ("call", "stamp"), (("house", ("a",)), ("number", 1)), ("any", "p"),
            ("must", 1, 0, -1, 8), 8, ((("root",), 1), (("root", "a"), 0)))
BARE_QUESTION = (0, 0, (), (), (), ("p",), ("no", 0, -1, -1, -1), 1, ())


def with_item(value, at, item):
    """Return a tuple with another item at a place."""
    return value[:at] + (item,) + value[at + 1:]


def with_part_value(word, value):
    """Return a certificate with just one part."""
    return with_item(PLAIN, 7, ((word, value),))


def words(many, first="w"):
    """Return a tuple of unlike words that ascend."""
    return tuple(f"{first}{number:02d}" for number in range(many))


def names(many):
    """Return an ascending tuple of so many names."""
    return tuple((word,) for word in words(many))


def subtrees(many):
    """Return an ascending tuple of so many subtrees."""
    return tuple(("house", (word,)) for word in words(many))
