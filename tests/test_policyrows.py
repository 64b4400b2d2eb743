"""Policy rows: [19], [64]."""

import itertools

from chainpapers.errors import InvalidCertificate, InvalidNumbers, InvalidPath, InvalidPolicy, InvalidRow, InvalidTruth
from chainpapers.errors import TooMany
from chainpapers.policyrows import expected_from, is_policy_row, origin_of, policy_rows, words_from
from tests.chains import made
from tests.policies import OPEN, WORDS, growing_path, questions, told_ahead, told_leads, told_origin, told_rows, told_taken
from tests.support import ANY_VALUES, Case, odd_values, spoiled
from tests.test_policyparts import NO_NUMBERS
from tests.test_rights import NO_CERTIFICATES, NO_CHAINS
from tests.things import PLAIN

NO_TRUTHS = odd_values(True, False)
NO_WORDS = odd_values("a", "any") + ["A", "a-b", "a" * 13, ("a",)]
NO_ANY = (-1, -1, 0)
NO_MAP = (-1, 0, -1)
ANY_HEAD = made({"policies": ("any", "p"), "mappings": (("q", "s"), ("q", "t"), ("r", "r"))})
BOTH = made({"policies": ("p", "q")})
TAKES_ALL = made({"policies": ("any",)})


class Words(Case):
    def test_words_at_random(self):
        for numbers, path in questions(300):
            for certificate, ahead in zip(path, told_ahead(numbers, path)):
                for word in WORDS:
                    for is_last in (True, False):
                        taken = tuple(one for one in WORDS if told_taken(certificate, is_last, ahead, word, one))
                        self.assertEqual(self.keeps(words_from, ahead, certificate, is_last, word), taken)
                    leads = tuple(one for one in WORDS if told_leads(certificate, ahead, word, one))
                    self.assertEqual(self.keeps(expected_from, ahead, certificate, word), leads)

    def test_taken_by_hand(self):
        itself = made(dict(ANY_HEAD[7]), itself=True)
        for numbers, certificate, is_last, expected, taken in (
                (OPEN, ANY_HEAD, False, "any", ("any", "p", "q", "r")), (OPEN, ANY_HEAD, True, "any", ("any", "p")),
                (NO_ANY, ANY_HEAD, False, "any", ("p",)), (NO_ANY, ANY_HEAD, True, "any", ("p",)),
                (NO_ANY, itself, False, "any", ("any", "p", "q", "r")), (NO_ANY, itself, True, "any", ("p",)),
                (OPEN, ANY_HEAD, False, "z", ("z",)), (OPEN, ANY_HEAD, True, "z", ("z",)), (NO_ANY, ANY_HEAD, False, "z", ()),
                (NO_ANY, ANY_HEAD, False, "p", ("p",)), (NO_ANY, itself, False, "z", ("z",)), (NO_ANY, itself, True, "z", ()),
                (NO_MAP, ANY_HEAD, False, "any", ("any", "p", "q", "r")), ((0, 0, 1), ANY_HEAD, True, "any", ("any", "p")),
                (OPEN, BOTH, False, "any", ("p", "q")), (OPEN, BOTH, True, "any", ("p", "q")), (OPEN, BOTH, False, "q", ("q",)),
                (OPEN, BOTH, False, "r", ()), (OPEN, made(), False, "any", ()), (OPEN, made(), True, "p", ()),
                (OPEN, made({"mappings": (("p", "q"),)}), False, "any", ()),
                (OPEN, made({"policies": ("z",), "mappings": (("p", "q"),)}), False, "any", ("z",))):
            self.assertEqual(words_from(numbers, certificate, is_last, expected), taken, (numbers, certificate, is_last, expected))

    def test_expected_by_hand(self):
        for numbers, word, leads in (
                (OPEN, "any", ("any",)), (NO_MAP, "any", ("any",)), (OPEN, "q", ("s", "t")), (NO_MAP, "q", ()),
                (OPEN, "r", ("r",)), (NO_MAP, "r", ()), (OPEN, "p", ("p",)), (NO_MAP, "p", ("p",)), (NO_ANY, "q", ("s", "t")),
                (OPEN, "s", ("s",)), ((-1, 1, -1), "q", ("s", "t")), ((0, 8, 0), "q", ("s", "t"))):
            self.assertEqual(expected_from(numbers, ANY_HEAD, word), leads, (numbers, word))

    def test_origins(self):
        for row in [(), ("any",), ("p",)] + list(itertools.product(("any", "p", "q"), repeat=4)) + [("any",) * 7 + ("z",)]:
            self.assertEqual(self.keeps(origin_of, row), told_origin(row))

    def test_errors(self):
        self.checks(words_from, (OPEN, PLAIN, True, "any"), [
            (NO_NUMBERS, InvalidNumbers), (NO_CERTIFICATES, InvalidCertificate), (NO_TRUTHS, InvalidTruth),
            (NO_WORDS, InvalidPolicy)])
        self.checks(expected_from, (OPEN, PLAIN, "p"), [
            (NO_NUMBERS, InvalidNumbers), (NO_CERTIFICATES, InvalidCertificate), (NO_WORDS, InvalidPolicy)])
        no_rows = odd_values((), ("a",), ("a", "b")) + [("a",) * 9, ["a"], ("A",), ("a", 1), ("",), "a"]
        self.checks(origin_of, (("p",),), [(no_rows, InvalidRow)])


class Rows(Case):
    def test_rows_at_random(self):
        many = 0
        for numbers, path in questions(400):
            rows = told_rows(numbers, path, len(path))
            self.assertEqual(self.keeps(policy_rows, numbers, path), rows)
            many = max(many, len(rows))
            for row in itertools.product(WORDS, repeat=len(path)):
                self.assertIs(is_policy_row(numbers, path, row), row in rows, (numbers, path, row))
        self.assertGreater(many, 8)

    def test_rows_by_hand(self):
        for numbers, path, rows in (
                (OPEN, (made(),), []), (OPEN, (BOTH,), [("p",), ("q",)]), (OPEN, (ANY_HEAD,), [("any",), ("p",)]),
                (NO_ANY, (ANY_HEAD,), [("p",)]), (OPEN, (BOTH, made(), BOTH), []),
                (OPEN, (ANY_HEAD, BOTH), [("any", "p"), ("any", "q"), ("p", "p")]),
                (OPEN, (ANY_HEAD, TAKES_ALL), [("any", "any"), ("p", "p"), ("q", "s"), ("q", "t"), ("r", "r")]),
                (NO_MAP, (ANY_HEAD, TAKES_ALL), [("any", "any"), ("p", "p")]),
                ((-1, 1, -1), (ANY_HEAD, ANY_HEAD, TAKES_ALL), [("any", "any", "any"), ("any", "p", "p"), ("p", "p", "p"),
                                                                 ("q", "s", "s"), ("q", "t", "t")]),
                ((-1, -1, 1), (TAKES_ALL, TAKES_ALL), []), ((-1, -1, 2), (TAKES_ALL, TAKES_ALL), [("any", "any")]),
                ((-1, -1, 1), (made({"policies": ("any",)}, itself=True), TAKES_ALL), [("any", "any")]),
                ((-1, -1, 0), (made({"policies": ("any",)}, itself=True), BOTH), [("any", "p"), ("any", "q")]),
                (OPEN, (made({"policies": ("any",), "anylimit": 0}), BOTH, TAKES_ALL), []),
                (OPEN, (TAKES_ALL,) * 8, [("any",) * 8])):
            self.assertEqual(policy_rows(numbers, path), rows, (numbers, path))

    def test_a_thousand_rows(self):
        thousand = growing_path(5, 5, 5, 8)[:-1]
        self.assertEqual(len(thousand), 6)
        last = made({"policies": ("any",)})
        rows = policy_rows(OPEN, thousand + (last,))
        self.assertEqual((len(rows), rows == sorted(set(rows))), (1000, True))
        first = made({"policies": tuple(f"w{at}" for at in range(5)) + ("z",), "mappings": thousand[0][7][0][1]})
        self.raises(TooMany, policy_rows, OPEN, (first,) + thousand[1:] + (last,), limit=1000)
        none = (first,) + thousand[1:] + (made({"policies": ("y",)}),)
        self.assertEqual(policy_rows(OPEN, none), [])

    def test_too_many_rows_of_some_first_certificates(self):
        words = tuple(f"w{at}" for at in range(8))
        first = made({"policies": ("any",), "mappings": tuple((word, "x") for word in words)})
        more = growing_path(8, 8, 8, 2)[1:]
        path = (first,) + more
        self.assertEqual(len(path), 7)
        self.assertLess(len(policy_rows(OPEN, path[:6])), 1000)
        self.raises(TooMany, policy_rows, OPEN, path, limit=1000)
        ending = path[:7] + (made({"policies": ("y",)}),)
        self.raises(TooMany, policy_rows, OPEN, ending, limit=1000)
        self.assertIs(is_policy_row(OPEN, path, ("w3", "x", "w1", "x", "w2", "x", "w1")), True)

    def test_values_that_are_no_rows(self):
        path = (ANY_HEAD, TAKES_ALL)
        for row in (("q", "s"), ("any", "any")):
            self.assertIs(self.keeps(is_policy_row, OPEN, path, row), True)
            for value in list(spoiled(row)) + [row + ("any",), row[:1], ("Q", "s"), ("q", "any"), ("any", "q")]:
                self.assertIs(is_policy_row(OPEN, path, value), False, value)
        for value in ANY_VALUES:
            self.assertIs(is_policy_row(OPEN, path, value), False)
            self.assertIs(is_policy_row(OPEN, (TAKES_ALL,), value), False)

    def test_errors(self):
        wrong = [(NO_NUMBERS, InvalidNumbers), (NO_CHAINS, InvalidPath)]
        self.checks(is_policy_row, (OPEN, (PLAIN,), None), wrong + [None])
        self.checks(policy_rows, (OPEN, (PLAIN,)), wrong)
