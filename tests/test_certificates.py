"""Certificates and their parts: [6], [44]."""

from chainpapers.certificates import is_certificate, is_self_issued, part_of, with_part
from chainpapers.errors import InvalidCertificate, InvalidPart
from tests.support import Case, odd_values, spoiled
from tests.things import FULL, FULL_PARTS, PLAIN, SELF, names, subtrees, with_item, with_part_value, words

PART_WORDS = [word for word, _ in FULL_PARTS]

# For each word values that the part may have, and values that it may not have.
PARTS = {
    "anylimit": ([0, 1, 8], [-1, 9, 10 ** 119, ()]),
    "basic": ([(True, -1), (True, 0), (True, 8), (False, -1)],
              [(True, -2), (True, 9), (False, 0), (False, 8), (False, -2), (True,), (True, 1, 1), (1, 1), (True, True)]),
    "excluded": ([(("house", ()),), subtrees(8), FULL_PARTS[2][1]],
                 [(), subtrees(9), (("name", ()), ("house", ())), (("house", ()),) * 2, (("number", 9, 3),), (("x",),)]),
    "lists": ([(("a",),), names(4)], [(), names(5), (("b",), ("a",)), (("a",), ("a",)), ((),), ("a",)]),
    "mappings": ([(("p", "p"),), (("p", "q"), ("p", "r"), ("q", "p")), tuple((word, "x") for word in words(8))],
                 [(), tuple((word, "x") for word in words(9)), (("any", "p"),), (("p", "any"),), (("p", "q"),) * 2,
                  (("q", "p"), ("p", "q")), (("p",),), (("p", "q", "r"),), (("p", ""),)]),
    "names": ([(("number", 0),), tuple(("number", at) for at in range(8)), FULL_PARTS[5][1]],
              [(), tuple(("number", at) for at in range(9)), (("number", 1), ("number", 0)), (("number", 1),) * 2,
               (("name", ("a",)),), (("house", ()),), (("number", 65536),)]),
    "odd": ([(True, "a"), (False, "any"), (True, "abcdefghijkl")],
            [(True,), (True, ""), (1, "a"), (True, "a", "b"), ("a", True), (False, "A")]),
    "permitted": ([(("house", ()),), subtrees(8), FULL_PARTS[7][1]],
                  [(), subtrees(9), (("name", ()), ("house", ())), (("house", ()),) * 2, (("letter", ("a",)),)]),
    "policies": ([("any",), ("p",), ("any", "p"), words(8), words(7) + ("x",)],
                 [(), words(9), ("p", "any"), ("p", "p"), ("",), "any", ("p", "P")]),
    "policylimits": ([(0, -1), (-1, 0), (8, 8), (0, 0), (-1, 8)],
                     [(-1, -1), (9, 0), (0, 9), (-2, 0), (0, -2), (0,), (0, 0, 0), 1]),
    "purposes": ([(), ("any",), ("any", "call", "serve", "sign", "stamp"), ("sign",), ("call", "stamp")],
                 [("sign", "call"), ("sign", "sign"), ("certs",), ("",), "any", ("any", "lists")]),
    "uses": ([(), ("agree", "certs", "lists", "sign"), ("sign",), ("agree", "sign")],
             [("sign", "certs"), ("sign", "sign"), ("any",), ("call",), ("agree", "any"), "sign"]),
}

# For each place of a certificate but that of the parts, what may and what may not stand there.
PLACES = [
    (0, [0, 1, 10 ** 6], [-1, 10 ** 6 + 1]),
    (1, [("a",), ("a", "b", "c", "d")], [(), ("a",) * 5, ("",)]),
    (2, [("a",), ("a", "b", "c", "d")], [(), ("a",) * 5, ("",)]),
    (3, [0, 2 ** 32 - 1], [-1, 2 ** 32]),
    (4, [0, 2 ** 32 - 1], [-1, 2 ** 32]),
    (5, [0, 200], [-1, 201, 10 ** 9, 10 ** 9 + 1]),
    (6, [100, 10 ** 9], [99, 0, -1, 10 ** 9 + 1]),
    (8, [0, 2 ** 32 - 1], [-1, 2 ** 32]),
]


class Certificates(Case):
    def test_good_ones(self):
        self.takes_just(is_certificate, [PLAIN, FULL, SELF], [PLAIN[:8], PLAIN + (0,), list(PLAIN), PLAIN[1:], ()])

    def test_each_place(self):
        for at, good, bad in PLACES:
            for value in good:
                self.assertIs(is_certificate(with_item(PLAIN, at, value)), True, (at, value))
            for value in bad + odd_values(0, 1, 2 ** 32, ("a",), ("a", "b")):
                if value != 2 ** 32 or at in (3, 4, 8):
                    self.assertIs(is_certificate(with_item(PLAIN, at, value)), False, (at, value))

    def test_spoiled_ones(self):
        self.takes_no_spoiled(is_certificate, [PLAIN, FULL, SELF])

    def test_since_is_at_most_until(self):
        for since, until, is_one in ((5, 5, True), (5, 6, True), (6, 5, False), (0, 10 ** 9, True)):
            self.assertIs(is_certificate(PLAIN[:5] + (since, until) + PLAIN[7:]), is_one)

    def test_parts_ascend_by_unlike_words(self):
        basic, uses = ("basic", (True, 0)), ("uses", ("certs",))
        for parts, is_one in (((), True), ((basic,), True), ((basic, uses), True), ((uses, basic), False),
                              ((basic, basic), False), ((basic, ("basic", (True, 1))), False),
                              ((basic, ("other", 1)), False), ((("basic",),), False), ((basic + (1,),), False),
                              (basic, False), (("basic", "uses"), False), (FULL_PARTS, True),
                              (FULL_PARTS + (("uses", ()),), False), (((0, (True, 0)),), False), (((None, 1),), False),
                              ((([], 1),), False)):
            self.assertIs(is_certificate(with_item(PLAIN, 7, parts)), is_one, parts)

    def test_there_are_twelve_words(self):
        self.assertEqual(sorted(PARTS), PART_WORDS)
        self.assertEqual(len(PART_WORDS), 12)


class Parts(Case):
    def test_values_of_each_part(self):
        for word, (good, bad) in PARTS.items():
            for value in good:
                self.assertIs(is_certificate(with_part_value(word, value)), True, (word, value))
                self.assertEqual(part_of(with_part(PLAIN, word, value), word), value)
                for other in spoiled(value):
                    self.assertIs(is_certificate(with_part_value(word, other)), False, (word, other))
            for value in bad:
                self.assertIs(is_certificate(with_part_value(word, value)), False, (word, value))
                self.raises(InvalidPart, with_part, PLAIN, word, value)

    def test_odd_values_of_each_part(self):
        allowed = {"anylimit": [0, 1], "purposes": [()], "uses": [()], "policies": [("a",), ("a", "b")]}
        for word in PART_WORDS:
            for value in odd_values(*allowed.get(word, [])):
                self.assertIs(is_certificate(with_part_value(word, value)), False, (word, str(value)[:99]))
                if value is not None:
                    self.raises(InvalidPart, with_part, FULL, word, value)

    def test_part_of(self):
        for word, value in FULL_PARTS:
            self.assertEqual(self.keeps(part_of, FULL, word), value)
            self.assertIsNone(part_of(PLAIN, word))

    def test_self_issued(self):
        self.assertIs(is_self_issued(SELF), True)
        self.assertIs(is_self_issued(PLAIN), False)
        self.assertIs(is_self_issued(with_item(PLAIN, 1, ("root", "web"))), True)
        self.assertIs(is_self_issued(with_item(PLAIN, 4, PLAIN[3])), False)

    def test_with_part_takes_the_place(self):
        for word, (good, _) in PARTS.items():
            for value in good:
                self.assertEqual(self.keeps(with_part, PLAIN, word, value), with_part_value(word, value))
                replaced = with_part(FULL, word, value)
                self.assertEqual(replaced[7], tuple((one, value if one == word else old) for one, old in FULL_PARTS))
                self.assertEqual(replaced[:7] + replaced[8:], FULL[:7] + FULL[8:])
                self.assertTrue(is_certificate(replaced))

    def test_with_part_none_takes_out(self):
        for word in PART_WORDS:
            self.assertEqual(with_part(PLAIN, word, None), PLAIN)
            without = self.keeps(with_part, FULL, word, None)
            self.assertEqual(without[7], tuple(part for part in FULL_PARTS if part[0] != word))
            self.assertEqual(with_part(without, word, dict(FULL_PARTS)[word]), FULL)

    def test_errors(self):
        no_certificates = odd_values() + [FULL[:8], with_item(FULL, 0, True)]
        no_words = odd_values() + ["Basic", "basic ", "limit", ("basic",), ["basic"]]
        self.checks(part_of, (FULL, "basic"), [(no_certificates, InvalidCertificate), (no_words, InvalidPart)])
        self.checks(is_self_issued, (FULL,), [(no_certificates, InvalidCertificate)])
        self.checks(with_part, (FULL, "basic", (True, 1)),
                    [(no_certificates, InvalidCertificate), (no_words, InvalidPart), (odd_values(None), InvalidPart)])
        self.raises(InvalidPart, with_part, FULL, "other", None)
        self.raises(InvalidPart, with_part, FULL, "uses", (True, 1))
