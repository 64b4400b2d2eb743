"""Which states of policies are laxer: [21], [67], and what [3] says of laxer states."""

import itertools
import random

from chainpapers.errors import InvalidState
from chainpapers.policyorder import policy_laxer
from chainpapers.policysteps import policy_ended, policy_entered, policy_passed
from tests.policies import OPEN, all_wanted, some_certificate
from tests.support import Case
from tests.test_policysteps import NO_STATES, START

PAIRS = (("any", "any"), ("p", "p"), ("p", "q"), ("q", "p"), ("q", "q"))
ALL_KEPT = [chosen for many in range(6) for chosen in itertools.combinations(PAIRS, many)]


def told_laxer(state, other):
    """The document's words."""
    for number, one in zip(state[1], other[1]):
        if number != -1 and (one == -1 or number < one):
            return False
    return all(pair in state[0] or (pair[0] == pair[1] and ("any", "any") in state[0]) for pair in other[0])


def what_is_let(state, path, wanted):
    """What a rest of a path lets from a state, or None."""
    for certificate in path[:-1]:
        state = policy_entered(state, certificate, False)
        if state is None:
            return None
        state = policy_passed(state, certificate)
    state = policy_entered(state, path[-1], True)
    return None if state is None else policy_ended(state, path[-1], wanted)


def some_state(source):
    return source.choice(ALL_KEPT), tuple(source.choice((-1, 0, 0, 1, 2)) for _ in range(3))


def laxer_pair(source):
    """A state, and another one that is rather stricter."""
    state = some_state(source)
    kept = source.sample(state[0] + (PAIRS if ("any", "any") in state[0] else ()), source.randint(0, len(state[0])))
    numbers = tuple(max(0, number - 1) if number >= 0 else source.choice((-1, 2, 0)) for number in state[1])
    return state, (tuple(sorted(set(kept))), source.choice((numbers, state[1])))


class Laxer(Case):
    def test_what_is_kept(self):
        for one, other in itertools.product(ALL_KEPT, repeat=2):
            self.assertIs(policy_laxer((one, OPEN), (other, OPEN)), told_laxer((one, OPEN), (other, OPEN)), (one, other))

    def test_numbers(self):
        for at in range(3):
            for one, other in itertools.product((-1, 0, 1, 2, 8), repeat=2):
                first, second = ((START[0], OPEN[:at] + (number,) + OPEN[at + 1:]) for number in (one, other))
                self.assertIs(policy_laxer(first, second), one == -1 or (other != -1 and one >= other), (at, one, other))

    def test_by_hand(self):
        empty = ((), OPEN)
        for state, other, is_one in (
                (START, START, True), (START, empty, True), (empty, START, False), (empty, empty, True),
                (START, ((("p", "p"), ("z", "z")), OPEN), True), (START, ((("p", "q"),), OPEN), False),
                (((("p", "p"),), OPEN), START, False), (((("p", "q"),), OPEN), ((("p", "q"),), OPEN), True),
                ((START[0] + (("p", "q"),), OPEN), ((("p", "q"), ("q", "q")), OPEN), True)):
            self.assertIs(self.keeps(policy_laxer, state, other), is_one, (state, other))

    def test_a_laxer_state_lets_no_less(self):
        seen = 0
        for seed in range(6000):
            source = random.Random(seed)
            state, other = laxer_pair(source)
            self.assertIs(policy_laxer(state, other), told_laxer(state, other))
            if not policy_laxer(state, other):
                continue
            path = tuple(some_certificate(source) for _ in range(source.randint(1, 3)))
            for wanted in all_wanted()[:3] + [("p", "q", "r"), ("any", "p", "q", "r")]:
                let = what_is_let(other, path, wanted)
                if let is not None:
                    more = what_is_let(state, path, wanted)
                    self.assertIsNotNone(more, (state, other, path, wanted))
                    self.assertTrue(set(let) <= set(more) or "any" in more, (state, other, path, wanted))
                    seen += len(let)
        self.assertGreater(seen, 200)

    def test_it_stays_laxer(self):
        seen = 0
        for seed in range(4000):
            source = random.Random(seed)
            state, other = laxer_pair(source)
            certificate = some_certificate(source)
            entered = policy_entered(other, certificate, False)
            if policy_laxer(state, other) and entered is not None:
                self.assertIs(policy_laxer(policy_passed(policy_entered(state, certificate, False), certificate),
                                           policy_passed(entered, certificate)), True, (state, other, certificate))
                seen += len(entered[0])
        self.assertGreater(seen, 200)

    def test_errors(self):
        self.checks(policy_laxer, (START, START), [(NO_STATES, InvalidState)] * 2)
