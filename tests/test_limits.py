"""Limits: [16], [17], [61], and what [3] says of them."""

import itertools
import random

from chainpapers.depths import left_row
from chainpapers.errors import InvalidCertificate, InvalidChain, InvalidLimits, InvalidNumber, InvalidPurposes
from chainpapers.limits import are_laxer, is_limits, limits_behind, limits_let, limits_of, limits_parting, limits_started
from tests.chains import MOST_TIME, PURPOSES, USES, head, made, questions, some_certificate, some_of, told_bars
from tests.chains import told_purposes, with_value
from tests.support import Case, odd_values, spoiled
from tests.test_rights import NO_CERTIFICATES, NO_CHAINS
from tests.test_times import WRONG_TIMES
from tests.things import PLAIN

NO_DEPTHS = odd_values(0, 1, -1) + [-2, 9]
NO_PURPOSES = odd_values(()) + [("any",), ("sign", "call"), ["sign"], ("certs",), ("sign", "sign")]
OPEN = (-1, PURPOSES, 0, MOST_TIME)
GOOD = [OPEN, (0, (), 0, 0), (8, ("call", "stamp"), 5, 6), (3, ("sign",), MOST_TIME, MOST_TIME)]
BAD = [(-2, (), 0, 0), (9, (), 0, 0), (0, (), 1, 0), (0, (), -1, 0), (0, (), 0, MOST_TIME + 1), (0, ("any",), 0, 0),
       (0, ("sign", "call"), 0, 0), (0, ("certs",), 0, 0), (0, (), 0), (0, (), 0, 0, 0), (0, None, 0, 0)]
NO_LIMITS = odd_values() + BAD + list(spoiled(GOOD[2]))
ALL_SMALL = [(left, purposes, low, high) for left in (-1, 0, 2, 8) for purposes in ((), ("call",), ("call", "sign"), PURPOSES)
             for low, high in ((0, 5), (3, 5), (0, 7), (6, 7))]


def head_for_all():
    """A certificate as parting ones are: a head without a depth, that counts, for all purposes and times."""
    return head()


def lets_rest(limits, many, time, purposes):
    """Whether so many heads for all, and a last one for all, can follow limits, and these are let behind them."""
    for at in range(many + 1):
        limits = limits_behind(limits, head_for_all(), at == many)
        if isinstance(limits, str):
            return False
    return limits_let(limits, time, purposes)


class Limits(Case):
    def test_is_limits(self):
        self.takes_just(is_limits, GOOD, BAD)
        self.takes_no_spoiled(is_limits, GOOD)

    def test_started(self):
        for depth in range(-1, 9):
            self.assertEqual(self.keeps(limits_started, depth), (depth, PURPOSES, 0, MOST_TIME))

    def test_behind_by_hand(self):
        for limits, certificate, is_last, behind in (
                (OPEN, made(), True, OPEN), (OPEN, made(), False, "seal"), (OPEN, head(), False, OPEN),
                (OPEN, with_value(head(), "uses", ("agree", "sign")), False, "seal"),
                (OPEN, with_value(head(), "uses", ("agree", "sign")), True, OPEN),
                (OPEN, with_value(head(3), "uses", ("certs",)), False, (3,) + OPEN[1:]),
                (OPEN, head(3), True, OPEN), (OPEN, head(0, True), False, (0,) + OPEN[1:]),
                ((0,) + OPEN[1:], head(), False, "depth"), ((0,) + OPEN[1:], head(), True, (0,) + OPEN[1:]),
                ((0,) + OPEN[1:], head(-1, True), False, (0,) + OPEN[1:]),
                ((0,) + OPEN[1:], head(5, True), False, (0,) + OPEN[1:]),
                ((1,) + OPEN[1:], head(), False, (0,) + OPEN[1:]), ((8,) + OPEN[1:], head(), False, (7,) + OPEN[1:]),
                ((8,) + OPEN[1:], head(8), False, (7,) + OPEN[1:]), ((8,) + OPEN[1:], head(8, True), False, (8,) + OPEN[1:]),
                ((5,) + OPEN[1:], head(4), False, (4,) + OPEN[1:]), ((5,) + OPEN[1:], head(3), False, (3,) + OPEN[1:]),
                (OPEN, made((), 4, 9), True, (-1, PURPOSES, 4, 9)), ((2, (), 5, 7), made((), 7, 9), True, (2, (), 7, 7)),
                ((2, (), 5, 7), made((), 8, 9), True, "times"), ((2, (), 5, 7), made((), 0, 4), True, "times"),
                ((2, (), 5, 7), made((), 0, 4), False, "seal"), ((0, (), 5, 7), head(since=8), False, "depth"),
                ((1, (), 5, 7), head(since=8), False, "times"),
                (OPEN, made({"purposes": ("sign",)}), True, (-1, ("sign",), 0, MOST_TIME)),
                (OPEN, made({"purposes": ("any", "sign")}), True, OPEN), (OPEN, made({"purposes": ()}), True, (-1, ()) + OPEN[2:]),
                ((0, ("call", "sign"), 0, 9), made({"purposes": ("serve", "sign")}), True, (0, ("sign",), 0, 9))):
            self.assertEqual(self.keeps(limits_behind, limits, certificate, is_last), behind, (limits, certificate, is_last))

    def test_a_chain_is_walked_one_by_one(self):
        words = {}
        for depth, chain, _, _, _ in questions(800):
            limits = limits_started(depth)
            for at, certificate in enumerate(chain):
                limits = limits_behind(limits, certificate, at == len(chain) - 1)
                if isinstance(limits, str):
                    words[limits] = True
                    limits = (at, limits)
                    break
            self.assertEqual(self.keeps(limits_of, depth, chain), limits)
            if len(limits) == 4:
                self.assertEqual(limits[0], ([depth] + left_row(depth, chain))[-1])
                self.assertEqual(limits[1], tuple(word for word in PURPOSES if all(word in told_purposes(one) for one in chain)))
                self.assertEqual(limits[2:], (max(one[5] for one in chain), min(one[6] for one in chain)))
        self.assertEqual(sorted(words), ["depth", "seal", "times"])

    def test_walks_tell_what_bars_tell(self):
        seen = {True: 0, False: 0}
        for depth, chain, time, purposes, uses in questions(1500, 5):
            limits = limits_of(depth, chain)
            is_let = len(limits) == 4 and limits_let(limits, time, purposes) and not set(uses) - set(
                dict(chain[-1][7]).get("uses", USES))
            self.assertIs(is_let, not told_bars(depth, chain, time, purposes, uses))
            seen[is_let] += 1
        self.assertGreater(min(seen.values()), 50)

    def test_let(self):
        for limits in ALL_SMALL:
            for time in (0, 2, 3, 5, 6, 7, 8, MOST_TIME):
                for purposes in some_of(PURPOSES):
                    is_one = limits[2] <= time <= limits[3] and set(purposes) <= set(limits[1])
                    self.assertIs(limits_let(limits, time, purposes), is_one)
        self.assertIs(self.keeps(limits_let, OPEN, MOST_TIME, PURPOSES), True)

    def test_eight_certificates(self):
        self.assertEqual(limits_of(7, (head(),) * 8)[0], 0)
        self.assertEqual(limits_of(6, (head(),) * 8), (6, "depth"))
        self.assertEqual(limits_of(0, (head(-1, True),) * 8)[0], 0)
        self.assertEqual(limits_of(0, (head(-1, True),) * 7 + (made(),))[0], 0)
        self.assertEqual(limits_of(0, (made(),)), (0,) + OPEN[1:])


class Laxer(Case):
    def test_laxer_as_the_document_tells(self):
        for one, other in itertools.product(ALL_SMALL, repeat=2):
            is_one = (one[0] == -1 or (other[0] != -1 and one[0] >= other[0])) and set(other[1]) <= set(one[1])
            is_one = is_one and one[2] <= other[2] and other[3] <= one[3]
            self.assertIs(are_laxer(one, other), is_one, (one, other))
            self.assertIs(limits_parting(one, other) is None, is_one)
        self.assertIs(self.keeps(are_laxer, OPEN, (8, (), 3, 3)), True)

    def test_what_parts_does_part(self):
        for one, other in itertools.product(ALL_SMALL, repeat=2):
            triple = self.keeps(limits_parting, one, other)
            if triple is not None:
                many, time, purposes = triple
                self.assertTrue(0 <= many <= 9 and 0 <= time <= MOST_TIME and purposes in some_of(PURPOSES), triple)
                self.assertIs(lets_rest(other, many, time, purposes), True, (one, other, triple))
                self.assertIs(lets_rest(one, many, time, purposes), False, (one, other, triple))

    def test_each_difference_by_itself(self):
        self.assertEqual(limits_parting((8,) + OPEN[1:], OPEN)[0], 9)
        self.assertEqual(limits_parting((0,) + OPEN[1:], (1,) + OPEN[1:])[0], 1)
        self.assertEqual(limits_parting((0, PURPOSES, 3, 5), (0, PURPOSES, 3, 6))[1], 6)
        self.assertEqual(limits_parting((0, PURPOSES, 4, 6), (0, PURPOSES, 3, 6))[1], 3)
        self.assertEqual(limits_parting((0, ("call",), 3, 6), (0, ("call", "sign"), 3, 6))[2], ("sign",))

    def test_whatever_follows_laxer_limits(self):
        seen = 0
        for seed in range(3000):
            source = random.Random(seed)
            one, other = source.choice(ALL_SMALL), source.choice(ALL_SMALL)
            if are_laxer(one, other):
                for is_last in (False, False, True):
                    certificate = some_certificate(source, 0.9)
                    one = limits_behind(one, certificate, is_last)
                    other = limits_behind(other, certificate, is_last)
                    if isinstance(other, str):
                        break
                    self.assertIs(are_laxer(one, other), True)
                    seen += 1
        self.assertGreater(seen, 200)

    def test_errors(self):
        self.checks(limits_started, (0,), [(NO_DEPTHS, InvalidNumber)])
        no_truths = [value for value in odd_values(True, False)]
        self.checks(limits_behind, (OPEN, PLAIN, True),
                    [(NO_LIMITS, InvalidLimits), (NO_CERTIFICATES, InvalidCertificate), (no_truths, InvalidNumber)])
        self.checks(limits_of, (0, (PLAIN,)), [(NO_DEPTHS, InvalidNumber), (NO_CHAINS, InvalidChain)])
        self.checks(limits_let, (OPEN, 0, ()), [(NO_LIMITS, InvalidLimits), (WRONG_TIMES, InvalidNumber),
                                                (NO_PURPOSES, InvalidPurposes)])
        for function in (are_laxer, limits_parting):
            self.checks(function, (OPEN, GOOD[1]), [(NO_LIMITS, InvalidLimits)] * 2)
