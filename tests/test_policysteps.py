"""States of policies, and which policies are let: [20], [21], [65], and what [3] says of pairs kept."""

import itertools

from chainpapers.errors import InvalidCertificate, InvalidNumbers, InvalidPath, InvalidPolicies, InvalidState, InvalidTruth
from chainpapers.policysteps import policies_let, policy_ended, policy_entered, policy_passed, policy_start
from tests.chains import made
from tests.policies import OPEN, all_wanted, growing_path, questions, told_ahead, told_kept, told_let, told_origin, told_rows
from tests.support import Case, odd_values, spoiled
from tests.test_policyparts import NO_NUMBERS
from tests.test_policyrows import ANY_HEAD, BOTH, NO_TRUTHS, TAKES_ALL
from tests.test_rights import NO_CERTIFICATES, NO_CHAINS
from tests.things import PLAIN, words

START = ((("any", "any"),), OPEN)
STATE = ((("any", "any"), ("p", "p"), ("p", "q")), (0, 1, -1))
MANY = tuple((word, "x") for word in sorted(f"v{at}" for at in range(1001)))
NO_STATES = odd_values() + list(spoiled(STATE)) + [
    ((("p", "any"),), OPEN), ((("any", "p"),), OPEN), (STATE[0][::-1], OPEN), (STATE[0][:1] * 2, OPEN), (MANY, OPEN),
    ((("p",),), OPEN), ((("p", "q", "r"),), OPEN), ((("P", "q"),), OPEN), ((), (0, 0)), ((), (0, 9, 0)), ((), (0, 0, -2)),
    ((),), ((), OPEN, ()), (None, OPEN)]
NO_WANTED = odd_values(("a",), ("a", "b")) + [(), words(9), ("p", "any"), ("p", "p"), ("P",), ["p"]]


def state(numbers, *kept):
    return (kept, numbers)


class Steps(Case):
    def test_start(self):
        for numbers in itertools.product((-1, 0, 8), repeat=3):
            self.assertEqual(self.keeps(policy_start, numbers), ((("any", "any"),), numbers))

    def test_what_is_kept_is_what_rows_tell(self):
        for numbers, path in questions(400):
            ahead = told_ahead(numbers, path)
            known = policy_start(numbers)
            for at, certificate in enumerate(path):
                self.assertEqual(known, (told_kept(numbers, path, at), ahead[at]))
                is_last = at == len(path) - 1
                pairs = tuple(sorted({(told_origin(row), row[-1]) for row in told_rows(numbers, path, at + 1)}))
                entered = self.keeps(policy_entered, known, certificate, is_last)
                if not pairs and ahead[at][0] == 0:
                    self.assertIsNone(entered)
                    break
                self.assertEqual(entered, (pairs, ahead[at]))
                if not is_last:
                    known = self.keeps(policy_passed, entered, certificate)

    def test_entering_by_hand(self):
        for known, certificate, is_last, entered in (
                (START, BOTH, False, state(OPEN, ("p", "p"), ("q", "q"))),
                (START, ANY_HEAD, False, state(OPEN, ("any", "any"), ("p", "p"), ("q", "q"), ("r", "r"))),
                (START, ANY_HEAD, True, state(OPEN, ("any", "any"), ("p", "p"))), (START, made(), False, state(OPEN)),
                (state((0, 0, 0), ("a", "p"), ("a", "z"), ("b", "p")), BOTH, False, state((0, 0, 0), ("a", "p"), ("b", "p"))),
                (state(OPEN, ("any", "any"), ("q", "p")), BOTH, True, state(OPEN, ("p", "p"), ("q", "p"), ("q", "q"))),
                (state((0, 1, 1), ("a", "z")), BOTH, False, None), (state((0, 1, 1)), TAKES_ALL, True, None),
                (state((1, 0, 0), ("a", "z")), BOTH, False, state((1, 0, 0))), (state((-1, 0, 0)), BOTH, True, state((-1, 0, 0))),
                (state((0, -1, 0), ("any", "any")), TAKES_ALL, False, None),
                (state((0, -1, 1), ("any", "any")), TAKES_ALL, False, state((0, -1, 1), ("any", "any")))):
            self.assertEqual(self.keeps(policy_entered, known, certificate, is_last), entered, (known, certificate))

    def test_passing_by_hand(self):
        mapped = (("any", "any"), ("o", "q"), ("o", "s"), ("p", "p"))
        for numbers, behind, kept in (
                (OPEN, OPEN, (("any", "any"), ("o", "s"), ("o", "t"), ("p", "p"))),
                ((3, 2, 1), (2, 1, 0), (("any", "any"), ("o", "s"), ("o", "t"), ("p", "p"))),
                ((0, 0, 0), (0, 0, 0), (("any", "any"), ("o", "s"), ("p", "p"))),
                ((-1, 1, -1), (-1, 0, -1), (("any", "any"), ("o", "s"), ("o", "t"), ("p", "p")))):
            self.assertEqual(self.keeps(policy_passed, (mapped, numbers), ANY_HEAD), (kept, behind))
        self.assertEqual(policy_passed(state((1, 1, 1)), made({"policylimits": (0, -1)}, itself=True)), ((), (0, 1, 1)))

    def test_ending_by_hand(self):
        ask = made({"policylimits": (0, -1)})
        for known, certificate, wanted, let in (
                (state(OPEN), made(), ("any",), ()), (state(OPEN), ask, ("any",), None), (state(OPEN), ask, ("p",), None),
                (state((0, 0, 0)), made(), ("p",), None), (state((1, 0, 0)), made(), ("p",), None),
                (state((1, 0, 0)), made(itself=True), ("p",), None), (state((2, 0, 0)), made(), ("p",), ()),
                (state((2, 0, 0)), made({"policylimits": (1, 0)}), ("p",), ()),
                (state(OPEN, ("any", "any")), made(), ("any",), ("any",)), (state(OPEN, ("any", "any")), ask, ("p", "z"), ("p", "z")),
                (state(OPEN, ("p", "q"), ("p", "r")), ask, ("any",), ("p",)), (state(OPEN, ("p", "q")), ask, ("q",), None),
                (state(OPEN, ("p", "q")), made(), ("q",), ()), (state(OPEN, ("p", "q"), ("r", "q")), ask, ("q", "r"), ("r",)),
                (state(OPEN, ("p", "q"), ("r", "q")), ask, ("any", "z"), ("p", "r")),
                (state(OPEN, ("any", "any"), ("p", "q")), made(), ("any", "z"), ("any", "p"))):
            self.assertEqual(self.keeps(policy_ended, known, certificate, wanted), let, (known, certificate, wanted))

    def test_the_most_pairs(self):
        kept = tuple((f"o{at:03d}", "x") for at in range(1000))
        spread = made({"policies": ("x",), "mappings": tuple(("x", f"y{at}") for at in range(8))})
        found = policy_passed((kept, OPEN), spread)
        self.assertEqual((len(found[0]), found[0][0], found[0][-1]), (8000, ("o000", "y0"), ("o999", "y7")))
        self.raises(InvalidState, policy_entered, found, spread, False)
        self.assertEqual(policy_entered((kept, OPEN), spread, True), (kept, OPEN))

    def test_errors(self):
        self.checks(policy_start, (OPEN,), [(NO_NUMBERS, InvalidNumbers)])
        own = [(NO_STATES, InvalidState), (NO_CERTIFICATES, InvalidCertificate)]
        self.checks(policy_entered, (START, PLAIN, True), own + [(NO_TRUTHS, InvalidTruth)])
        self.checks(policy_passed, (START, PLAIN), own)
        self.checks(policy_ended, (START, PLAIN, ("any",)), own + [(NO_WANTED, InvalidPolicies)])


class Letting(Case):
    def test_at_random(self):
        seen = {}
        for numbers, path in questions(400):
            for wanted in all_wanted():
                let = policies_let(numbers, path, wanted)
                self.assertEqual(let, told_let(numbers, path, wanted), (numbers, path, wanted))
                seen[(let[0], bool(let[1]))] = seen.get((let[0], bool(let[1])), 0) + 1
            self.keeps(policies_let, numbers, path, ("any",))
        self.assertEqual(len(seen), 4)
        self.assertGreater(min(seen.values()), 20)

    def test_by_hand(self):
        none = made()
        for numbers, path, wanted, told in (
                (OPEN, (none,), ("any",), ("let", ())), ((0, -1, -1), (none,), ("any",), ("bar", 0)),
                ((1, -1, -1), (none,), ("any",), ("bar", 0)), ((2, -1, -1), (none,), ("any",), ("let", ())),
                ((1, -1, -1), (none, none), ("any",), ("bar", 1)), ((2, -1, -1), (none, none), ("p",), ("bar", 1)),
                ((3, -1, -1), (none, none), ("p",), ("let", ())), ((0, -1, -1), (BOTH, none, BOTH), ("p",), ("bar", 1)),
                (OPEN, (made({"policylimits": (0, -1)}), BOTH), ("p",), ("bar", 1)),
                ((0, -1, -1), (BOTH, BOTH), ("p",), ("let", ("p",))), ((0, -1, -1), (BOTH, BOTH), ("z",), ("bar", 1)),
                ((8, -1, -1), (BOTH,) * 8, ("z",), ("bar", 7)), ((8, -1, -1), (BOTH,) * 7, ("z",), ("let", ())),
                ((0, -1, -1), (TAKES_ALL, TAKES_ALL), ("any", "p"), ("let", ("any",))),
                ((0, -1, -1), (TAKES_ALL, TAKES_ALL), ("p", "z"), ("let", ("p", "z"))),
                ((-1, -1, 1), (TAKES_ALL, TAKES_ALL), ("p",), ("let", ())),
                ((0, -1, 1), (TAKES_ALL, TAKES_ALL), ("p",), ("bar", 1)),
                ((0, 0, -1), (ANY_HEAD, BOTH), ("any",), ("let", ("p", "q"))),
                ((0, 0, -1), (ANY_HEAD, made({"policies": ("s",)})), ("any",), ("let", ("s",))),
                ((0, -1, -1), (ANY_HEAD, made({"policies": ("s",)})), ("any",), ("let", ("q", "s")))):
            self.assertEqual(policies_let(numbers, path, wanted), told, (numbers, path, wanted))

    def test_eight_certificates(self):
        for ask, told in ((8, ("bar", 7)), (7, ("bar", 7)), (6, ("bar", 6)), (0, ("bar", 0)), (-1, ("let", ()))):
            self.assertEqual(policies_let((ask, -1, -1), (made(),) * 8, ("p",)), told)
        self.assertEqual(policies_let((2, -1, -1), (made(itself=True),) * 8, ("p",)), ("let", ()))
        self.assertEqual(policies_let((1, -1, -1), (made(itself=True),) * 8, ("p",)), ("bar", 7))

    def test_more_rows_than_are_listed(self):
        path = growing_path(8, 8, 8, 8)[:-1] + (TAKES_ALL,)
        self.assertEqual(policies_let((0, -1, -1), path, ("any",)), ("let", tuple(f"w{at}" for at in range(8))))

    def test_errors(self):
        self.checks(policies_let, (OPEN, (PLAIN,), ("any",)), [
            (NO_NUMBERS, InvalidNumbers), (NO_CHAINS, InvalidPath), (NO_WANTED, InvalidPolicies)])
