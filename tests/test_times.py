"""Sets of times: [15], [60]."""

import itertools
import random

from chainpapers.errors import InvalidChain, InvalidNumber, InvalidTimes
from chainpapers.times import chain_times, has_time, is_times, times_joined, times_less, times_met, times_of_chains
from tests.chains import MOST_TIME, made
from tests.support import Case, odd_values
from tests.test_rights import NO_CHAINS
from tests.things import PLAIN

ALL = ((0, MOST_TIME),)
HUNDRED = tuple((at * 4, at * 4 + 1) for at in range(100))
BETWEEN = tuple((at * 4 + 2, at * 4 + 3) for at in range(100))
GOOD = [(), ALL, ((0, 0),), ((MOST_TIME, MOST_TIME),), ((1, 3), (5, 5), (7, 9)), HUNDRED]
BAD = [((3, 1),), ((1, 3), (4, 6)), ((1, 3), (3, 6)), ((1, 3), (2, 6)), ((5, 6), (1, 2)), ((1, 2), (1, 2)), ((-1, 3),),
       ((0, MOST_TIME + 1),), ((1,),), ((1, 2, 3),), (1, 2), [(1, 2)], ([1, 2],), HUNDRED + ((900, 901),)]
NO_TIMES = odd_values(()) + BAD
WRONG_TIMES = odd_values(0, 1) + [-1, MOST_TIME + 1]


def times_of(told):
    """The set of some times, by the stretches that they make."""
    found = []
    for time in sorted(told):
        if found and found[-1][1] + 1 == time:
            found[-1][1] = time
        else:
            found.append([time, time])
    return tuple((low, high) for low, high in found)


def told(times):
    return {time for low, high in times for time in range(low, high + 1)}


ALL_SMALL = [times_of([time for time in range(6) if chosen >> time & 1]) for chosen in range(64)]


class Times(Case):
    def test_is_times(self):
        self.takes_just(is_times, GOOD, BAD)
        self.takes_no_spoiled(is_times, GOOD[:5])
        self.assertEqual(len(ALL_SMALL), len(set(ALL_SMALL)))
        for times in ALL_SMALL:
            self.assertIs(is_times(times), True)

    def test_small_sets_with_each_other(self):
        for one, other in itertools.product(ALL_SMALL, repeat=2):
            self.assertEqual(times_joined(one, other), times_of(told(one) | told(other)))
            self.assertEqual(times_met(one, other), times_of(told(one) & told(other)))
            self.assertEqual(times_less(one, other), times_of(told(one) - told(other)))

    def test_larger_sets(self):
        for seed in range(60):
            source = random.Random(seed)
            one, other = (times_of(source.sample(range(120), source.randint(0, 100))) for _ in range(2))
            self.assertEqual(self.keeps(times_joined, one, other), times_of(told(one) | told(other)))
            self.assertEqual(self.keeps(times_met, one, other), times_of(told(one) & told(other)))
            self.assertEqual(self.keeps(times_less, one, other), times_of(told(one) - told(other)))

    def test_ends_of_all_times(self):
        self.assertEqual(times_less(ALL, ((0, 0), (MOST_TIME, MOST_TIME))), ((1, MOST_TIME - 1),))
        self.assertEqual(times_joined(((0, 5),), ((6, MOST_TIME),)), ALL)
        self.assertEqual(times_met(((0, 5),), ((5, MOST_TIME),)), ((5, 5),))
        self.assertEqual(times_met(((0, 5),), ((6, MOST_TIME),)), ())
        self.assertEqual(times_less(ALL, ALL), ())
        self.assertEqual(times_less((), ALL), ())

    def test_a_hundred_stretches(self):
        self.assertEqual(times_joined(HUNDRED, BETWEEN), ((0, 399),))
        self.assertEqual(times_met(HUNDRED, BETWEEN), ())
        self.assertEqual(times_less(HUNDRED, BETWEEN), HUNDRED)
        apart = tuple((at * 8, at * 8) for at in range(100))
        more = times_joined(apart, tuple((at * 8 + 4, at * 8 + 5) for at in range(100)))
        self.assertEqual((len(more), more[:3], is_times(more)), (200, ((0, 0), (4, 5), (8, 8)), False))
        self.assertEqual(len(times_less(ALL, HUNDRED)), 100)

    def test_has_time(self):
        for times in ALL_SMALL:
            for time in range(8):
                self.assertIs(has_time(times, time), time in told(times))
        self.assertIs(self.keeps(has_time, ALL, MOST_TIME), True)
        self.assertIs(has_time(HUNDRED, 397), True)
        self.assertIs(has_time(HUNDRED, 398), False)
        self.assertIs(has_time((), 0), False)


class Chains(Case):
    def test_chain_times(self):
        for seed in range(200):
            source = random.Random(seed)
            spans = [sorted(source.sample(range(20), 2)) for _ in range(source.randint(1, 8))]
            chain = tuple(made((), since, until) for since, until in spans)
            common = set.intersection(*(told([span]) for span in spans))
            self.assertEqual(self.keeps(chain_times, chain), times_of(common))
        self.assertEqual(chain_times((made(),)), ALL)
        self.assertEqual(chain_times((made((), 0, 5), made((), 5, 9))), ((5, 5),))
        self.assertEqual(chain_times((made((), 0, 5), made((), 6, 9))), ())

    def test_times_of_chains(self):
        for seed in range(200):
            source = random.Random(seed)
            chains = []
            for _ in range(source.randint(0, 6)):
                spans = [sorted(source.choices(range(25), k=2)) for _ in range(source.randint(1, 2))]
                chains.append(tuple(made((), since, until) for since, until in spans))
            every = set()
            for chain in chains:
                every |= told(chain_times(chain))
            self.assertEqual(self.keeps(times_of_chains, tuple(chains)), times_of(every))
        self.assertEqual(times_of_chains(()), ())
        apart = tuple((made((), at * 2, at * 2),) for at in range(30))
        self.assertEqual(times_of_chains(apart[::-1]), tuple((at * 2, at * 2) for at in range(30)))

    def test_errors(self):
        for function in (times_joined, times_met, times_less):
            self.checks(function, ((), ALL), [(NO_TIMES, InvalidTimes)] * 2)
        self.checks(has_time, (ALL, 0), [(NO_TIMES, InvalidTimes), (WRONG_TIMES, InvalidNumber)])
        self.checks(chain_times, ((PLAIN,),), [(NO_CHAINS, InvalidChain)])
        no_chains = odd_values(()) + [((PLAIN,),) * 31, [(PLAIN,)], (PLAIN,), ([PLAIN],), ((PLAIN,), ()), (((PLAIN,) * 9),)]
        self.checks(times_of_chains, (((PLAIN,),) * 30,), [(no_chains, InvalidChain)])
