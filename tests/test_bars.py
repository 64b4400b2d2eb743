"""What bars a chain: [13], [14], [62], and what [3] says of it."""

import itertools

from chainpapers.bars import all_bars, first_bar, is_let, takes_bar
from chainpapers.errors import InvalidChain, InvalidNumber, InvalidPurposes, InvalidUses
from tests.chains import MOST_TIME, PURPOSES, USES, head, made, questions, told_bars
from tests.support import ANY_VALUES, Case, odd_values, spoiled
from tests.test_limits import NO_DEPTHS, NO_PURPOSES
from tests.test_rights import NO_CHAINS
from tests.test_times import WRONG_TIMES

NO_USES = odd_values(()) + [("any",), ("sign", "agree"), ["sign"], ("call",), ("sign", "sign"), ("serve",)]


def seen_at(bar):
    return bar[2][-1] if bar[0] == "depth" else bar[1]


def told_least(bars):
    """The bars that are told, of all: those of a depth with the least places alone."""
    least = {}
    for bar in bars:
        if bar[0] == "depth":
            least[bar[1]] = min(bar[2], least.get(bar[1], bar[2]))
    return tuple(sorted([bar for bar in bars if bar[0] != "depth"] + [("depth",) + pair for pair in least.items()]))


def possible_bars(chain):
    """Values that have the form of bars of a chain, true or not."""
    places = range(-2, len(chain) + 1)
    found = [("head", at) for at in places]
    found += [(word, at, time) for word in ("early", "late") for at in places for time in (0, 3, 5, 8, 10, MOST_TIME)]
    found += [("use", at, word) for at in places for word in USES + ("call",)]
    found += [("purpose", at, word) for at in places for word in PURPOSES + ("any", "certs")]
    counted = [chosen for many in range(4) for chosen in itertools.combinations(range(-1, len(chain) + 1), many)]
    return found + [("depth", at, chosen) for at in places for chosen in counted]


class Bars(Case):
    def test_all_bars(self):
        words = {}
        lets = 0
        for question in questions(1500):
            told = told_bars(*question)
            found = self.keeps(all_bars, *question)
            self.assertEqual(found, told_least(told), question)
            self.assertIs(is_let(*question), not told)
            words.update((bar[0], True) for bar in found)
            lets += not told
            if told:
                place = min(map(seen_at, found))
                self.assertEqual(first_bar(*question), min(bar for bar in found if seen_at(bar) == place), question)
            else:
                self.assertIsNone(first_bar(*question))
        self.assertEqual(sorted(words), ["depth", "early", "head", "late", "purpose", "use"])
        self.assertGreater(lets, 50)

    def test_takes_bar(self):
        for question in questions(150, 5):
            told = told_bars(*question)
            for value in possible_bars(question[1]):
                self.assertIs(takes_bar(*question, value), value in told, (question, value))
            for bar in all_bars(*question):
                self.assertIs(takes_bar(*question, bar), True)

    def test_each_sort_by_itself(self):
        for question, bars in (
                ((-1, (made((), 5, 9),), 4, (), ()), (("early", 0, 5),)), ((-1, (made((), 5, 9),), 5, (), ()), ()),
                ((-1, (made((), 5, 9),), 9, (), ()), ()), ((-1, (made((), 5, 9),), 10, (), ()), (("late", 0, 9),)),
                ((-1, (head(since=6), made((), 0, 4)), 5, (), ()), (("early", 0, 6), ("late", 1, 4))),
                ((-1, (made(), made()), 0, (), ()), (("head", 0),)), ((-1, (made(),), 0, PURPOSES, USES), ()),
                ((-1, (made({"basic": (False, -1)}), made()), 0, (), ()), (("head", 0),)),
                ((-1, (made({"basic": (True, -1), "uses": ("sign",)}), made()), 0, (), ("sign",)), (("use", 0, "certs"),)),
                ((-1, (made({"uses": ("sign",)}),), 0, (), USES), (("use", 0, "agree"), ("use", 0, "certs"), ("use", 0, "lists"))),
                ((-1, (made({"uses": ()}),), 0, (), ()), ()),
                ((-1, (head(), made({"purposes": ("call",)})), 0, ("call", "sign"), ()), (("purpose", 1, "sign"),)),
                ((-1, (made({"basic": (True, -1), "purposes": ()}), made({"purposes": ("any",)})), 0, ("sign",), ()),
                 (("purpose", 0, "sign"),))):
            self.assertEqual(self.keeps(all_bars, *question), bars, question)

    def test_several_at_once(self):
        question = (0, (made({"purposes": ("call",), "uses": ()}, 5, 6), made({"uses": ("sign",)}, 0, 3)), 4, ("sign",),
                    ("agree", "sign"))
        self.assertEqual(all_bars(*question), (
            ("depth", -1, (0,)), ("early", 0, 5), ("head", 0), ("late", 1, 3), ("purpose", 0, "sign"), ("use", 0, "certs"),
            ("use", 1, "agree")))
        self.assertEqual(first_bar(*question), ("depth", -1, (0,)))
        self.assertEqual(first_bar(*question[:2], 5, *question[3:]), ("depth", -1, (0,)))
        self.assertEqual(first_bar(-1, *question[1:]), ("early", 0, 5))

    def test_depths(self):
        plain = (head(),) * 4
        self.assertEqual(all_bars(1, plain, 0, (), ()), (("depth", -1, (0, 1)),))
        self.assertEqual(all_bars(2, plain, 0, (), ()), (("depth", -1, (0, 1, 2)),))
        self.assertEqual(all_bars(3, plain, 0, (), ()), ())
        for places, is_one in (((0, 1), True), ((0, 2), True), ((1, 2), True), ((1, 3), False), ((0,), False), ((0, 0), False),
                               ((1, 0), False), ((0, 1, 2), False), ((), False), ((-1, 0), False), ([0, 1], False),
                               ((False, True), False), ((0, True), False)):
            self.assertIs(takes_bar(1, plain, 0, (), (), ("depth", -1, places)), is_one, places)
        self.assertIs(takes_bar(3, plain, 0, (), (), ("depth", -1, (0, 1, 2, 3))), False)
        self.assertIs(takes_bar(-1, plain, 0, (), (), ("depth", -1, ())), False)

    def test_depths_count_what_is_not_self_issued_and_not_last(self):
        itself = head(-1, True)
        chain = (itself, head(0), itself, head(), itself, head(), head(0))
        self.assertEqual(all_bars(1, chain, 0, (), ()), (("depth", -1, (1, 3)), ("depth", 1, (3,))))
        self.assertEqual(first_bar(1, chain, 0, (), ()), ("depth", -1, (1, 3)))
        self.assertEqual(first_bar(2, chain, 0, (), ()), ("depth", 1, (3,)))
        self.assertEqual(all_bars(0, (itself,) * 8, 0, (), ()), ())
        self.assertEqual(all_bars(0, (itself, made()), 0, (), ()), ())
        self.assertEqual(all_bars(0, (head(),), 0, (), ()), ())
        self.assertEqual(all_bars(0, (head(0), head(0)), 0, (), ()), (("depth", -1, (0,)),))
        self.assertEqual(all_bars(-1, (head(0, True), itself, made()), 0, (), ()), ())
        self.assertEqual(all_bars(-1, (head(6),) + (head(),) * 7, 0, (), ()), ())
        self.assertEqual(all_bars(6, (head(),) * 8, 0, (), ()), (("depth", -1, (0, 1, 2, 3, 4, 5, 6)),))
        self.assertIs(is_let(7, (head(),) * 8, 0, (), ()), True)
        self.assertIs(takes_bar(-1, (head(0), head(0)), 0, (), (), ("depth", 1, (1,))), False)

    def test_first_bar_is_seen_first(self):
        late = head(until=3)
        self.assertEqual(first_bar(0, (head(-1, True), late, made()), 4, (), ()), ("depth", -1, (1,)))
        self.assertEqual(first_bar(1, (late, head(), made()), 4, (), ()), ("late", 0, 3))
        self.assertEqual(first_bar(1, (head(), late, made()), 4, (), ()), ("depth", -1, (0, 1)))
        self.assertEqual(first_bar(-1, (head(0), made({}, 5), made()), 4, (), ()), ("depth", 0, (1,)))

    def test_values_that_are_no_bars(self):
        question = (0, (made({"uses": ("certs",)}, 1, 1), head(0, since=1), head(-1, True), head(), made()), 0, ("sign",), ())
        question = question[:1] + ((made({"purposes": ()}, 1, 1),) + question[1][1:],) + question[2:]
        bars = told_bars(*question)
        self.assertEqual(sorted({bar[0] for bar in bars}), ["depth", "early", "head", "purpose"])
        for bar in bars:
            self.assertIs(self.keeps(takes_bar, *question, bar), True)
            for value in list(spoiled(bar)) + [bar + (0,), bar[:-1], bar[1:], (bar[0].upper(),) + bar[1:], (bar,)]:
                self.assertIs(takes_bar(*question, value), False, value)
        for value in ANY_VALUES:
            self.assertIs(takes_bar(*question, value), False)

    def test_errors(self):
        good = (0, (made(),), 0, (), ())
        wrong = [(NO_DEPTHS, InvalidNumber), (NO_CHAINS, InvalidChain), (WRONG_TIMES, InvalidNumber),
                 (NO_PURPOSES, InvalidPurposes), (NO_USES, InvalidUses)]
        for function in (is_let, all_bars, first_bar):
            self.checks(function, good, wrong)
        self.checks(takes_bar, good + (None,), wrong + [None])
