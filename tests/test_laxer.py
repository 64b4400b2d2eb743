"""Which walk states are laxer: [32], [80], and what is let from them ([3])."""

import random

from chainpapers.errors import InvalidState
from chainpapers.laxer import is_laxer
from chainpapers.regions import region_of, whole_region
from chainpapers.steps import ended, entered, passed
from chainpapers.walkstates import is_walk_state
from tests.support import Case
from tests.test_walkstates import GOOD, NO_WALK_STATES, SOME_SPOILED
from tests.things import with_item
from tests.titles import titles_of, told_in
from tests.worlds import HOUSES, KEYS, NAMES, worlds

ANY = (("any", "any"),)
OPEN = (-1, -1, -1)
BASE = (("r",), 5, 3, region_of((("house", ("x",)), ("number", 3, 9))), ((("p", "p"), ("p", "q")), (2, 1, 0)))
TITLES = titles_of(("x", "y", "r", "a"), ("m",), range(12), 3)
NOTHING = ((), (), (), ())
KEPT = (ANY, (("p", "p"),), ANY + (("p", "q"),), (("p", "p"), ("q", "q")), ())


def told_laxer(state, other):
    """The document's words; regions are told title by title."""
    if state[:2] != other[:2] or not (state[2] == -1 or 0 <= other[2] <= state[2]):
        return False
    if any(told_in(other[3], title) and not told_in(state[3], title) for title in TITLES):
        return False
    (kept, numbers), (other_kept, other_numbers) = state[4], other[4]
    if not all(one == -1 or 0 <= second <= one for one, second in zip(numbers, other_numbers)):
        return False
    return all(pair in kept or (pair[0] == pair[1] and ("any", "any") in kept) for pair in other_kept)


def some_region(source):
    return source.choice((whole_region(), whole_region(), region_of(tuple(sorted(source.sample(HOUSES, source.randint(1, 5)))))))


def some_state(source, name):
    numbers = tuple(source.choice((-1, -1, 0, 1, 2)) for _ in range(3))
    return (name, KEYS[name], source.choice((-1, -1, 0, 1, 2)), some_region(source), (source.choice(KEPT), numbers))


def some_pair(source):
    """Two states, the first one rather laxer."""
    name = source.choice(NAMES[:2])
    state, other = some_state(source, name), some_state(source, name)
    for at in (2, 3, 4):
        if source.random() < 0.6:
            other = with_item(other, at, state[at])
    if source.random() < 0.3:
        state = (name, KEYS[name], -1, whole_region(), (ANY, OPEN))
    return state, other


class Laxer(Case):
    def test_each_is_laxer_than_itself(self):
        for state in GOOD + [BASE]:
            self.assertIs(self.keeps(is_laxer, state, state), True)

    def test_in_one_thing_at_a_time(self):
        for at, laxer, stricter in (
                (2, -1, 3), (2, 4, 3), (3, whole_region(), BASE[3]), (3, BASE[3], NOTHING), (3, BASE[3], region_of((("number", 4, 9),))),
                (4, (ANY + BASE[4][0], BASE[4][1]), BASE[4]), (4, BASE[4], ((("p", "q"),), BASE[4][1])),
                (4, (BASE[4][0], (3, 1, 0)), BASE[4]), (4, (BASE[4][0], (2, -1, 0)), BASE[4]), (4, (BASE[4][0], (2, 1, 1)), BASE[4])):
            one, other = with_item(BASE, at, laxer), with_item(BASE, at, stricter)
            self.assertEqual((is_laxer(one, other), is_laxer(other, one)), (True, False), (at, laxer, stricter))

    def test_laxer_in_one_thing_and_stricter_in_another(self):
        changes = [((2, -1), (2, 2)), ((3, whole_region()), (3, NOTHING)),
                   ((4, (ANY + BASE[4][0], BASE[4][1])), (4, ((), BASE[4][1])))]
        for one in range(3):
            for other in range(3):
                if one != other:
                    mixed = with_item(with_item(BASE, *changes[one][0]), *changes[other][1])
                    self.assertEqual((is_laxer(mixed, BASE), is_laxer(BASE, mixed)), (False, False))

    def test_left(self):
        for one in range(-1, 9):
            for other in range(-1, 9):
                told = one == -1 or 0 <= other <= one
                self.assertIs(is_laxer(with_item(BASE, 2, one), with_item(BASE, 2, other)), told, (one, other))

    def test_other_names_and_keys(self):
        for at, value in ((0, ("s",)), (0, ("r", "a")), (1, 6)):
            self.assertIs(is_laxer(with_item(BASE, at, value), BASE), False)
            self.assertIs(is_laxer(BASE, with_item(BASE, at, value)), False)

    def test_regions_title_by_title(self):
        source = random.Random(1)
        found = []
        for _ in range(150):
            one, other = (with_item(BASE, 3, some_region(source)) for _ in range(2))
            found.append(is_laxer(one, other))
            self.assertIs(found[-1], told_laxer(one, other), (one[3], other[3]))
        self.assertEqual(set(found), {True, False})

    def test_regions_of_other_kinds(self):
        subtrees = (("house", ("x",)), ("letter", "", ("x",)), ("letter", "m", ("x",)), ("name", ("x",)), ("number", 3, 4))
        for at, one in enumerate(subtrees):
            for place, other in enumerate(subtrees):
                told = at == place or (at, place) == (1, 2)
                first, second = (with_item(BASE, 3, region_of((subtree,))) for subtree in (one, other))
                self.assertIs(is_laxer(first, second), told, (one, other))
        spans = with_item(BASE, 3, NOTHING[:3] + (((3, 5), (7, 9)),))
        for span, told in (((3, 5), True), ((7, 8), True), ((4, 8), False), ((5, 7), False), ((2, 3), False), ((9, 10), False)):
            self.assertIs(is_laxer(spans, with_item(BASE, 3, NOTHING[:3] + ((span,),))), told, span)
        whole, holed = (with_item(BASE, 3, (marks, (), (), ())) for marks in ((((), True),), (((), True), (("x",), False))))
        self.assertEqual((is_laxer(whole, holed), is_laxer(holed, whole)), (True, False))

    def test_whatever_the_other_one_lets_is_let(self):
        seen = {"steps": 0, "let": 0}
        for seed, (store, question) in enumerate(worlds(400)):
            source = random.Random(seed)
            for _ in range(20):
                state, other = some_pair(source)
                self.assertIs(is_laxer(state, other), told_laxer(state, other), (state, other))
                if is_laxer(state, other):
                    for index in range(len(store[0])):
                        self.check_steps(store, question, state, other, index, seen)
        self.assertGreater(seen["steps"], 100)
        self.assertGreater(seen["let"], 100)

    def check_steps(self, store, question, state, other, index, seen):
        behind = entered(store, question, other, index)
        if behind[0] == "on":
            laxer = entered(store, question, state, index)
            self.assertEqual(laxer[0], "on")
            self.assertIs(is_laxer(laxer[1], behind[1]), True)
            if index == question[0]:
                let, less = ended(store, question, laxer[1], index), ended(store, question, behind[1], index)
                if less[0] == "let":
                    seen["let"] += 1
                    self.assertEqual(let[0], "let")
                    self.assertTrue(set(less[1]) <= set(let[1]) or "any" in let[1], (less, let))
            else:
                less = passed(store, question, behind[1], index)
                if less[0] == "on":
                    seen["steps"] += 1
                    let = passed(store, question, laxer[1], index)
                    self.assertEqual(let[0], "on")
                    self.assertIs(is_laxer(let[1], less[1]), True)
                    self.assertIs(is_walk_state(let[1]), True)

    def test_errors(self):
        self.checks(is_laxer, (GOOD[0], GOOD[1]), [(NO_WALK_STATES + SOME_SPOILED, InvalidState)] * 2)
