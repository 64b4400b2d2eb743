"""Papers of what holds and of what does not: [20], [22], [66], and what [3] says of both."""

import itertools

from chainpapers.errors import InvalidNumbers, InvalidPath, InvalidPolicy
from chainpapers.policypapers import held_row, lost_sets, shows_held, shows_lost
from chainpapers.policyrows import is_policy_row
from tests.chains import made
from tests.policies import OPEN, WORDS, growing_path, questions, told_ahead, told_leads, told_origin, told_rows, told_taken
from tests.support import ANY_VALUES, Case, odd_values, spoiled
from tests.test_policyparts import NO_NUMBERS
from tests.test_policyrows import ANY_HEAD, BOTH, TAKES_ALL
from tests.test_rights import NO_CHAINS
from tests.things import PLAIN, with_item

NO_POLICIES = odd_values("a") + ["any", "P", "a-b", "a" * 13, ("p",)]
POLICIES = ("p", "q", "z")
ALL_PAIRS = [("any", "any")] + list(itertools.product(WORDS[1:], repeat=2))


def told_led(pairs, numbers, certificate, is_last):
    """The pairs to which pairs lead, entering a certificate, and, if it is not the target, passing it."""
    entered = {(word if origin == "any" else origin, word) for origin, expected in pairs for word in WORDS
               if told_taken(certificate, is_last, numbers, expected, word)}
    if is_last:
        return entered
    return {(origin, one) for origin, word in entered for one in WORDS if told_leads(certificate, numbers, word, one)}


def told_lost(numbers, path, policy, sets):
    """Whether tuples of pairs are lost sets, in the document's words."""
    ahead = told_ahead(numbers, path)
    if ("any", "any") not in sets[0]:
        return False
    for at in range(len(path) - 1):
        if not told_led(sets[at], ahead[at], path[at], False) <= set(sets[at + 1]):
            return False
    ending = told_led(sets[-1], ahead[len(path) - 1], path[-1], True)
    return not {origin for origin, _ in ending} & {policy, "any"}


def changed_sets(sets):
    """Lost sets with one pair more, or one less, at each place."""
    for at, pairs in enumerate(sets):
        for pair in ALL_PAIRS:
            others = set(pairs) ^ {pair}
            yield with_item(sets, at, tuple(sorted(others)))


class Papers(Case):
    def test_either_a_row_or_lost_sets(self):
        seen = {True: 0, False: 0}
        for numbers, path in questions(400):
            origins = {told_origin(row) for row in told_rows(numbers, path, len(path))}
            for policy in POLICIES:
                holds = policy in origins or "any" in origins
                row = self.keeps(held_row, numbers, path, policy)
                sets = self.keeps(lost_sets, numbers, path, policy)
                seen[holds] += 1
                if holds:
                    self.assertIs(shows_held(numbers, path, policy, row), True)
                    self.assertIs(is_policy_row(numbers, path, row) and told_origin(row) in (policy, "any"), True)
                    self.assertIsNone(sets)
                else:
                    self.assertIsNone(row)
                    self.assertIs(shows_lost(numbers, path, policy, sets), True)
                    self.assertIs(told_lost(numbers, path, policy, sets), True)
        self.assertGreater(min(seen.values()), 100)

    def test_all_rows(self):
        for numbers, path in questions(150, 3):
            rows = told_rows(numbers, path, len(path))
            for policy in POLICIES:
                for row in itertools.product(WORDS, repeat=len(path)):
                    is_one = row in rows and told_origin(row) in (policy, "any")
                    self.assertIs(shows_held(numbers, path, policy, row), is_one)

    def test_sets_that_are_changed(self):
        seen = {True: 0, False: 0}
        for numbers, path in questions(120):
            for policy in POLICIES:
                sets = lost_sets(numbers, path, policy)
                for value in [] if sets is None else changed_sets(sets):
                    is_one = told_lost(numbers, path, policy, value)
                    self.assertIs(shows_lost(numbers, path, policy, value), is_one, (numbers, path, policy, value))
                    seen[is_one] += 1
        self.assertGreater(min(seen.values()), 100)

    def test_no_sets_are_lost_for_what_holds(self):
        seen = 0
        for numbers, path in questions(60, 2):
            for policy in POLICIES[:2]:
                if held_row(numbers, path, policy) is not None:
                    for chosen in itertools.product(range(8), repeat=len(path)):
                        pairs = [("any", "any"), ("p", "p"), ("q", "q")]
                        sets = tuple(tuple(pair for at, pair in enumerate(pairs) if held >> at & 1) for held in chosen)
                        self.assertIs(shows_lost(numbers, path, policy, sets), False)
                        seen += 1
        self.assertGreater(seen, 100)

    def test_by_hand(self):
        start = (("any", "any"),)
        self.assertEqual(held_row(OPEN, (TAKES_ALL, TAKES_ALL), "z"), ("any", "any"))
        self.assertEqual(held_row(OPEN, (ANY_HEAD, made({"policies": ("t",)})), "q"), ("q", "t"))
        self.assertEqual(held_row((-1, -1, 1), (ANY_HEAD, BOTH), "q"), ("any", "q"))
        self.assertIsNone(held_row((-1, 0, -1), (ANY_HEAD, made({"policies": ("t",)})), "q"))
        self.assertEqual(lost_sets((-1, -1, 1), (TAKES_ALL, TAKES_ALL), "p"), (start, start))
        self.assertEqual(lost_sets(OPEN, (made(), TAKES_ALL), "p"), (start, ()))
        self.assertIs(shows_lost(OPEN, (made(), made()), "p", (start, start)), True)
        self.assertIs(shows_lost(OPEN, (made(), made()), "p", ((), ())), False)
        self.assertIs(shows_lost(OPEN, (made(), BOTH), "z", (start, start)), True)
        self.assertIs(shows_lost(OPEN, (made(), BOTH), "p", (start, start)), False)
        self.assertEqual(lost_sets(OPEN, (BOTH,) * 8, "z")[7], (("p", "p"), ("q", "q")))

    def test_the_most_pairs(self):
        more = tuple((f"o{at:03d}", "x") for at in range(1000))
        path = (made(), made())
        for sets, is_one in ((((("any", "any"),) + more[:999], more), True), (((("any", "any"),) + more[:999], more[:999]), True),
                             (((("any", "any"),) + more, more), False), (((("any", "any"),), more + (("p", "p"),)), False)):
            self.assertIs(shows_lost(OPEN, path, "p", sets), is_one)

    def test_more_rows_than_are_listed(self):
        path = growing_path(8, 8, 8, 8)[:-1] + (made({"policies": ("w7",)}),)
        row = held_row(OPEN, path, "w5")
        self.assertEqual((row[0], row[-1], shows_held(OPEN, path, "w5", row)), ("w5", "w7", True))
        self.assertIs(shows_lost(OPEN, path, "x", lost_sets(OPEN, path, "x")), True)

    def test_values_that_are_no_papers(self):
        path = (ANY_HEAD, BOTH, BOTH)
        row, sets = held_row(OPEN, path, "p"), lost_sets(OPEN, path, "z")
        for value in list(spoiled(row)) + [row[:2], row + ("p",), row[::-1][:1]]:
            self.assertIs(shows_held(OPEN, path, "p", value), False, value)
        more = [sets[:2], sets + ((),), sets[1:], with_item(sets, 1, sets[1][::-1]), with_item(sets, 1, sets[1] + sets[1][-1:]),
                with_item(sets, 0, ((("any", "p"),))), with_item(sets, 2, sets[2] + (("z", "any"),)),
                with_item(sets, 2, sets[2] + (("z", "A"),)), with_item(sets, 2, sets[2] + (("z",),))]
        for value in list(spoiled(sets)) + more:
            self.assertIs(shows_lost(OPEN, path, "z", value), False, value)
        for value in ANY_VALUES:
            for known in (path, (made(),)):
                self.assertIs(shows_held(OPEN, known, "p", value), False)
                self.assertIs(shows_lost(OPEN, known, "z", value), False)

    def test_errors(self):
        wrong = [(NO_NUMBERS, InvalidNumbers), (NO_CHAINS, InvalidPath), (NO_POLICIES, InvalidPolicy)]
        for function in (held_row, lost_sets):
            self.checks(function, (OPEN, (PLAIN,), "p"), wrong)
        for function in (shows_held, shows_lost):
            self.checks(function, (OPEN, (PLAIN,), "p", None), wrong + [None])
