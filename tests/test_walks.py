"""Walks: [27] to [30], [78]."""

import itertools

from chainpapers.errors import InvalidAnchor, InvalidPath, InvalidQuestion, InvalidStore
from chainpapers.steps import ended, entered, passed
from chainpapers.walks import states_along, walk
from chainpapers.walkstates import begun, is_walk_state
from tests.routes import REASON_WORDS, SPOILERS, Route, rank, reasons_at
from tests.support import Case, odd_values
from tests.test_walkstates import NO_QUESTIONS, NO_STORES
from tests.worlds import index_paths, worlds

SHAPES = ((1, ()), (1, (0,)), (2, ()), (2, (0,)), (3, ()), (3, (1,)), (4, (1, 2)), (8, ()), (8, (0, 3, 7)))
# Both of these set the number ask, each in its own way.
FIGHTING = {"policy", "policies"}


def told_walk(store, question, anchor, path):
    """The walk by its steps, one after the other, and the states that it meets."""
    state = begun(store, question, anchor)
    states = [state]
    for place, index in enumerate(path):
        step = entered(store, question, state, index)
        if step[0] == "on":
            step = (ended if place == len(path) - 1 else passed)(store, question, step[1], index)
        if step[0] != "on":
            return states, step if step[0] == "let" else ("barred", place, step[1])
        state = step[1]
        states.append(state)


class Walks(Case):
    def test_let(self):
        for many, selfs in SHAPES:
            asked = Route(many, selfs).asked()
            self.assertEqual(self.keeps(walk, *asked), ("let", ("p",)), (many, selfs))
            self.assertEqual(len(self.keeps(states_along, *asked)), many)

    def test_each_reason_at_each_place(self):
        for many, selfs in SHAPES:
            for place in range(many):
                for reason in reasons_at(Route(many, selfs), place):
                    route = Route(many, selfs)
                    SPOILERS[reason](route, place)
                    asked = route.asked()
                    self.assertEqual(walk(*asked), ("barred", place, reason), (many, selfs))
                    self.assertEqual(len(states_along(*asked)), place + 1)

    def test_two_reasons_at_once(self):
        for many, selfs in ((3, ()), (3, (1,)), (2, (1,))):
            spoils = [(place, reason) for place in range(many) for reason in reasons_at(Route(many, selfs), place)]
            for one, other in itertools.combinations(spoils, 2):
                if one[1] != other[1] and {one[1], other[1]} != FIGHTING:
                    route = Route(many, selfs)
                    SPOILERS[other[1]](route, other[0])
                    SPOILERS[one[1]](route, one[0])
                    told = min(one, other, key=lambda pair: rank(*pair))
                    self.assertEqual(walk(*route.asked()), ("barred",) + told, (one, other, many, selfs))

    def test_one_reason_at_two_places(self):
        for reason in REASON_WORDS[:9] + ("head", "uses"):
            for one, other in itertools.combinations(range(3 if reason in ("head", "uses") else 4), 2):
                route = Route(4)
                SPOILERS[reason](route, other)
                SPOILERS[reason](route, one)
                self.assertEqual(walk(*route.asked()), ("barred", one, reason))

    def test_steps_one_after_the_other(self):
        lengths = set()
        for store, question in worlds(150):
            for anchor, path in index_paths(store, question, 40):
                states, told = told_walk(store, question, anchor, path)
                self.assertEqual(walk(store, question, anchor, path), told)
                self.assertEqual(states_along(store, question, anchor, path), states)
                self.assertTrue(all(is_walk_state(state) for state in states))
                lengths.add((told[0], len(states)))
        self.assertLessEqual({("let", many) for many in (1, 2, 3, 4)} | {("barred", many) for many in (1, 2, 3, 4)}, lengths)

    def test_the_target_stands_at_the_end_alone(self):
        store, question, anchor, path = Route(3).asked()
        one, two, target = path
        other = 6 - sum(path)
        for wrong in ((one, two), (target, target), (target, one, target), (one, target, two), (one, two, target, one), (),
                      (one,) * 8 + (target,), (one, 4), (-1, target), (4, target), list(path), [target], (None, target),
                      ((one,), target), (one, (target,))):
            self.raises(InvalidPath, walk, store, question, anchor, wrong)
            self.raises(InvalidPath, states_along, store, question, anchor, wrong)
        for right in ((target,), (two, target), (one,) * 7 + (target,), (other, two, target), (two, one, target)):
            self.assertEqual(walk(store, question, anchor, right), told_walk(store, question, anchor, right)[1])

    def test_truth_values_are_no_indices(self):
        store, question, anchor, path = Route(1).asked()
        self.assertIn(path, ((0,), (1,)))
        self.raises(InvalidPath, walk, store, question, anchor, (bool(path[0]),))

    def test_errors(self):
        asked = Route(2).asked()
        for function in (walk, states_along):
            self.checks(function, asked, [
                (NO_STORES, InvalidStore), (NO_QUESTIONS, InvalidQuestion), (odd_values(0) + [1, -1], InvalidAnchor),
                (odd_values((0,), ("a",)) + [asked[3] + (99,)], InvalidPath)])
            self.raises(InvalidAnchor, function, asked[0][:2] + ((),), *asked[1:])
