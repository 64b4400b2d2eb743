"""The forms of texts, by their names, from which texts are both read and written.

("number", low, high) is an integer, low being 0 or 1; ("maybe", high) one from 0 to high, or "-" for -1;
("truth",), ("word",) and ("choice", words) are what they say, ("box",) a word or none; ("words", least) are from
least, which is 0 or 1, to 4 words; ("several", form, least, most, open, between, close) are from least, which is
0 or 1, to most things; ("row", pairs, end) has a thing of a form behind each of some signs, and signs at its end;
("kinds", pairs) is one of several words, and a row that goes on behind it; ("tagged", pairs) is a pair of such a word
and of a thing; ("inside", form) is a thing in parentheses; ("lines", form, most) are things that begin with the name
of their form, each with a line feed behind.
"""

FORMS = {
    "word": ("word",),
    "truth": ("truth",),
    "box": ("box",),
    "name": ("words", 1),
    "path": ("words", 0),
    "key": ("number", 0, 4294967295),
    "serial": ("number", 0, 1000000),
    "base": ("maybe", 1000000),
    "time": ("number", 0, 1000000000),
    "grace": ("number", 0, 1000000),
    "limit": ("number", 0, 8),
    "depth": ("maybe", 8),
    "named number": ("number", 0, 65535),
    "target": ("number", 0, 29),
    "most": ("number", 1, 8),
    "use": ("choice", ("agree", "certs", "lists", "sign")),
    "purpose": ("choice", ("call", "serve", "sign", "stamp")),
    "purpose or any": ("choice", ("any", "call", "serve", "sign", "stamp")),
    "reason": ("choice", ("ceased", "changed", "head", "hold", "key", "replaced", "rights")),
    "reason or back": ("choice", ("back", "ceased", "changed", "head", "hold", "key", "replaced", "rights")),
    "scope kinds": ("choice", ("all", "heads", "users")),
    "states": ("choice", ("may", "must", "no")),
    "named words": ("row", (("(", "name"),), ")"),
    "named letter": ("row", (("(", "word"), ("@", "name")), ")"),
    "own number": ("row", (("(", "named number"),), ")"),
    "other": ("kinds", (("house", "named words"), ("letter", "named letter"), ("number", "own number"))),
    "held words": ("row", (("(", "path"),), ")"),
    "held letters": ("row", (("(", "box"), ("@", "path")), ")"),
    "held numbers": ("row", (("(", "named number"), ("..", "named number")), ")"),
    "subtree": ("kinds", (("house", "held words"), ("letter", "held letters"), ("name", "held words"),
                          ("number", "held numbers"))),
    "mapping": ("row", (("", "word"), (">", "word")), ""),
    "entry": ("row", (("", "name"), (":", "serial"), (":", "time"), (":", "reason or back")), ""),
    "sealer": ("row", (("", "name"), (":", "key")), ""),
    "any limit": ("inside", "limit"),
    "basic": ("row", (("(", "truth"), (",", "depth")), ")"),
    "odd": ("row", (("(", "truth"), (",", "word")), ")"),
    "policy limits": ("row", (("(", "depth"), (",", "depth")), ")"),
    "some subtrees": ("several", "subtree", 1, 8, "[", ",", "]"),
    "some names": ("several", "name", 1, 4, "[", ",", "]"),
    "some mappings": ("several", "mapping", 1, 8, "[", ",", "]"),
    "some others": ("several", "other", 1, 8, "[", ",", "]"),
    "some words": ("several", "word", 1, 8, "[", ",", "]"),
    "purposes": ("several", "purpose or any", 0, 8, "[", ",", "]"),
    "uses": ("several", "use", 0, 8, "[", ",", "]"),
    "part": ("tagged", (("anylimit", "any limit"), ("basic", "basic"), ("excluded", "some subtrees"),
                        ("lists", "some names"), ("mappings", "some mappings"), ("names", "some others"),
                        ("odd", "odd"), ("permitted", "some subtrees"), ("policies", "some words"),
                        ("policylimits", "policy limits"), ("purposes", "purposes"), ("uses", "uses"))),
    "parts": ("several", "part", 0, 12, "{", " ", "}"),
    "certificate": ("row", (("certificate ", "serial"), (" ", "name"), (" ", "name"), (" ", "key"), (" ", "key"),
                            (" ", "time"), (" ", "time"), (" ", "parts"), (" ", "key")), ""),
    "reasons": ("several", "reason", 0, 6, "[", ",", "]"),
    "scope": ("row", (("", "scope kinds"), (" ", "truth"), (" ", "reasons")), ""),
    "entries": ("several", "entry", 0, 30, "[", ",", "]"),
    "list": ("row", (("list ", "name"), (" ", "key"), (" ", "serial"), (" ", "base"), (" ", "time"), (" ", "time"),
                     (" ", "scope"), (" ", "entries"), (" ", "key")), ""),
    "subtrees": ("several", "subtree", 0, 8, "[", ",", "]"),
    "anchor": ("row", (("anchor ", "name"), (" ", "key"), (" ", "subtrees"), (" ", "subtrees"), (" ", "depth")), ""),
    "asked uses": ("several", "use", 0, 4, "[", ",", "]"),
    "asked purposes": ("several", "purpose", 0, 4, "[", ",", "]"),
    "asked names": ("several", "other", 0, 8, "[", ",", "]"),
    "settings": ("row", (("", "states"), (" ", "grace"), (" ", "depth"), (" ", "depth"), (" ", "depth")), ""),
    "sealers": ("several", "sealer", 0, 12, "[", ",", "]"),
    "question": ("row", (("question ", "target"), (" ", "time"), (" ", "asked uses"), (" ", "asked purposes"),
                         (" ", "asked names"), (" ", "some words"), (" ", "settings"), (" ", "most"),
                         (" ", "sealers")), ""),
    "certificates": ("lines", "certificate", 30),
    "lists": ("lines", "list", 12),
    "anchors": ("lines", "anchor", 6),
    "store": ("row", (("", "certificates"), ("", "lists"), ("", "anchors")), ""),
}


def form_behind(pairs, word):
    """Return the name of the form that goes on behind a word."""
    return [pair[1] for pair in pairs if pair[0] == word][0]
