"""Answers over times: [40], [95], and that between two turning times there is a path always or never ([3])."""

import itertools
import random
import time

from chainpapers.answers import answered, takes
from chainpapers.answertimes import answers_over, change_times, takes_over, times_let
from chainpapers.errors import InvalidQuestion, InvalidStore, InvalidTime
from chainpapers.sealing import sealed_certificate, sealed_list
from tests.bounds import bound_question, bound_store
from tests.lists import made
from tests.routes import Route
from tests.support import ANY_VALUES, Case, odd_values, spoiled
from tests.test_walkstates import NO_STORES
from tests.things import with_item
from tests.worlds import worlds

END = 10 ** 9
SPAN = (0, 30)
NO_TIMES = odd_values(0, 1) + [-1, END + 1]


def squeezed(source, store, question):
    """A store and a question whose times are from 0 to 30, or so, many of the spans at random."""
    def span(one):
        if source.random() < 0.5:
            return tuple(min(at // 3, 29) for at in one)
        return tuple(sorted((source.randint(0, 30), source.randint(0, 30))))

    certificates = {sealed_certificate(one[:5] + span(one[5:7]) + one[7:]) for one in store[0]}
    lists = {sealed_list(own[:4] + span(own[4:6]) + (own[6], tuple(
        entry[:2] + (source.randint(0, 30),) + entry[3:] for entry in own[7]), 0)) for own in store[1]}
    target = source.randrange(len(certificates))
    return (tuple(sorted(certificates)), tuple(sorted(lists)), store[2]), (target, 17) + question[2:]


def timed_worlds(many):
    """Stores in which much turns, and questions of them with each sort of states and with some grace."""
    found = 0
    for seed, (store, question) in enumerate(worlds(4 * many)):
        source = random.Random(seed)
        squeezed_store, squeezed_question = squeezed(source, store, question)
        if answered(squeezed_store, squeezed_question)[0] == "path" or source.random() < 0.2:
            settings = (source.choice(("no", "may", "must")), source.choice((0, 0, 2))) + question[6][2:]
            yield squeezed_store, with_item(squeezed_question, 6, settings)
            found += 1
        if found == many:
            return


def told_times(store, question, low, high):
    """The turning times, in the document's words."""
    times = {one[5] for one in store[0]} | {one[6] + 1 for one in store[0]}
    if question[6][0] != "no":
        for own in store[1]:
            times |= {own[4], own[5] + question[6][1] + 1} | {entry[2] for entry in own[7]}
    return tuple(sorted({low} | {one for one in times if low < one <= high}))


def at_time(question, moment):
    return with_item(question, 1, moment)


def has_path(store, question, moment):
    return answered(store, at_time(question, moment))[0] == "path"


def told_stretches(store, question, low, high):
    """The stretches of the times at which there is a path, asked at each of them."""
    lets = [moment for moment in range(low, high + 1) if has_path(store, question, moment)]
    found = []
    for moment in lets:
        if found and found[-1][1] == moment - 1:
            found[-1] = (found[-1][0], moment)
        else:
            found.append((moment, moment))
    return tuple(found)


class Times(Case):
    def test_turning_times(self):
        for store, question in timed_worlds(60):
            for low, high in ((0, 40), (5, 5), (10, 20), (0, 0), (17, END), (END, END)):
                found = self.keeps(change_times, store, question, low, high)
                self.assertEqual(found, told_times(store, question, low, high))

    def scene(self, states="no", grace=0, entries=(), span=(30, 60)):
        """A path of one certificate, and a list that has nothing to do with it but its issuer."""
        route = Route(1)
        route.spans = [(20, 80)]
        store, question, _, _ = route.asked()
        lists = (made(1, -1, entries, ("all", False, ()), span),)
        certificates = tuple(one for one in store[0] if one[0] == 1)
        return (certificates, lists, store[2]), (0,) + question[1:6] + ((states, grace, -1, -1, -1),) + question[7:]

    def test_by_hand(self):
        entry = (("r",), 9, 45, "key")
        for states, grace, entries, told in (
                ("no", 5, (entry,), (20, 81)), ("may", 0, (), (20, 30, 61, 81)), ("must", 0, (), (20, 30, 61, 81)),
                ("may", 5, (), (20, 30, 66, 81)), ("may", 0, (entry,), (20, 30, 45, 61, 81)), ("must", 20, (entry,), (20, 30, 45, 81))):
            store, question = self.scene(states, grace, entries)
            self.assertEqual(change_times(store, question, 0, 200), (0,) + told)
            for low, high in itertools.product((0, 19, 20, 21, 44, 45, 80, 81, 82), repeat=2):
                if low <= high:
                    self.assertEqual(change_times(store, question, low, high), (low,) + tuple(at for at in told if low < at <= high))

    def test_at_and_around_the_bounds(self):
        store, question = self.scene()
        for low, high, told in ((20, 80, (20,)), (19, 80, (19, 20)), (20, 81, (20, 81)), (21, 80, (21,)), (81, 81, (81,)), (82, 90, (82,)),
                                (0, 19, (0,)), (0, 20, (0, 20))):
            self.assertEqual(change_times(store, question, low, high), told)
        for low, high, told in ((20, 80, ((20, 80),)), (0, 200, ((20, 80),)), (21, 79, ((21, 79),)), (80, 81, ((80, 80),)), (81, 90, ()), (0, 19, ()),
                                (0, 20, ((20, 20),)), (50, 50, ((50, 50),)), (19, 19, ())):
            self.assertEqual(times_let(store, question, low, high), told)

    def test_states_and_grace(self):
        gone = (("r",), 1, 45, "key")
        for states, grace, entries, told in (("no", 0, (gone,), ((20, 80),)), ("may", 0, (), ((20, 80),)), ("must", 0, (), ((30, 60),)),
                                             ("must", 7, (), ((30, 67),)), ("must", 50, (), ((30, 80),)), ("may", 0, (gone,), ((20, 44), (61, 80))),
                                             ("may", 5, (gone,), ((20, 44), (66, 80))), ("must", 0, (gone,), ((30, 44),))):
            store, question = self.scene(states, grace, entries)
            self.assertEqual(times_let(store, question, 0, 200), told, (states, grace, entries))
            self.assertEqual(told_stretches(store, question, 0, 100), told)

    def test_stretches_that_touch_are_one(self):
        """Two ways to the target, the second one lasting from just behind the first one."""
        for until, since, told in ((39, 40, ((20, 80),)), (38, 40, ((20, 38), (40, 80))), (50, 40, ((20, 80),)), (39, 41, ((20, 39), (41, 80)))):
            heads = [sealed_certificate((serial, ("r",), ("a",), 6, 5) + span + ((("basic", (True, -1)),), 0))
                     for serial, span in ((1, (0, until)), (2, (since, 90)))]
            target = sealed_certificate((3, ("a",), ("t",), 7, 6, 20, 80, (), 0))
            store = (tuple(heads) + (target,), (), ((("r",), 5, (), (), -1),))
            question = (2, 50, (), (), (), ("any",), ("no", 0, -1, -1, -1), 8, ())
            self.assertEqual(times_let(store, question, 0, 100), told)
            self.assertEqual(times_let(store, question, 30, 45), tuple((max(30, low), min(45, high)) for low, high in told))

    def test_many_stretches(self):
        """Ways that last one behind the other; some of them touch, or have times in common."""
        spans = ((0, 10), (20, 30), (31, 40), (35, 50), (52, 60), (61, 61), (62, 63), (70, 90))
        heads = [sealed_certificate((serial, ("r",), ("a",), 6, 5) + span + ((("basic", (True, -1)),), 0)) for serial, span in enumerate(spans)]
        target = sealed_certificate((900, ("a",), ("t",), 7, 6, 0, 80, (), 0))
        store = (tuple(heads) + (target,), (), ((("r",), 5, (), (), -1),))
        question = (len(spans), 50, (), (), (), ("any",), ("no", 0, -1, -1, -1), 8, ())
        told = ((0, 10), (20, 50), (52, 63), (70, 80))
        self.assertEqual(times_let(store, question, 0, 100), told)
        for low, high in ((0, 51), (25, 25), (31, 61), (10, 20), (62, 100), (51, 51)):
            cut = tuple((max(low, one), min(high, other)) for one, other in told if one <= high and other >= low)
            self.assertEqual(times_let(store, question, low, high), cut)

    def test_each_time_by_itself(self):
        shapes = set()
        for store, question in timed_worlds(120):
            low, high = SPAN
            found = self.keeps(times_let, store, question, low, high)
            self.assertEqual(found, told_stretches(store, question, low, high), (store, question))
            shapes.add(min(len(found), 2))
            turns = change_times(store, question, low, high) + (high + 1,)
            for begin, end in zip(turns, turns[1:]):
                self.assertEqual(len({has_path(store, question, moment) for moment in (begin, (begin + end - 1) // 2, end - 1)}), 1)
        self.assertEqual(shapes, {0, 1, 2})

    def test_answers(self):
        for store, question in timed_worlds(60):
            found = self.keeps(answers_over, store, question, *SPAN)
            self.assertEqual(tuple(pair[0] for pair in found), told_times(store, question, *SPAN))
            for moment, answer in found:
                self.assertIs(takes(store, at_time(question, moment), answer), True)
                self.assertEqual(answer[0] == "path", has_path(store, question, moment))
            self.assertIs(takes_over(store, question, *SPAN, found), True)

    def test_spoiled_answers(self):
        for store, question in timed_worlds(25):
            found = answers_over(store, question, *SPAN)
            for at, (moment, answer) in enumerate(found):
                other = found[at - 1][1]
                told = takes(store, at_time(question, moment), other)
                self.assertIs(takes_over(store, question, *SPAN, with_item(found, at, (moment, other))), told)
                for pair in ((moment + 1, answer), (moment,), (moment, answer, 0), [moment, answer], (answer, moment), (str(moment), answer),
                             moment, None, (moment, None), (moment, list(answer)), (moment, answer + (0,))):
                    self.assertIs(takes_over(store, question, *SPAN, with_item(found, at, pair)), False)
                for value in list(spoiled(answer))[:20]:
                    self.assertIs(takes_over(store, question, *SPAN, with_item(found, at, (moment, value))), False)
                self.assertIs(takes_over(store, question, *SPAN, found[:at] + found[at + 1:]), False)
                self.assertIs(takes_over(store, question, *SPAN, found[:at] + found[at:at + 1] + found[at:]), False)
            self.assertIs(takes_over(store, question, *SPAN, list(found)), False)
            if len(found) > 1:
                self.assertIs(takes_over(store, question, *SPAN, found[::-1]), False)
                self.assertIs(takes_over(store, question, SPAN[0] + 1, SPAN[1], found), False)

    def test_any_values(self):
        store, question = self.scene()
        for value in ANY_VALUES:
            self.assertIs(takes_over(store, question, 0, 1, value), False)
        found = answers_over(store, question, 0, 1)
        for value in spoiled(found):
            self.assertIs(takes_over(store, question, 0, 1, value), False, value)
        self.assertIs(takes_over(store, question, 0, 1, found), True)

    def test_bound(self):
        """Lists with 30 entries each, at unlike times; 30 certificates that begin and end at unlike times."""
        store = bound_store()
        certificates = tuple(sorted(sealed_certificate(one[:5] + (at, 800 + at) + one[7:]) for at, one in enumerate(store[0])))
        lists = tuple(sorted(sealed_list(own[:4] + (5 + at, 700 + at, own[6], tuple(
            entry[:2] + (100 + 30 * at + place, "key") for place, entry in enumerate(own[7])), 0)) for at, own in enumerate(store[1])))
        store = (certificates, lists, store[2])
        for states, is_path in (("must", True), ("may", False)):
            question = bound_question(store, states, is_path)
            begin = time.process_time()
            found = answers_over(store, question, 60, 600)
            self.assertGreater(len(found), 300)
            self.assertIs(takes_over(store, question, 60, 600, found), True)
            self.assertEqual(len(times_let(store, question, 60, 600)), 1 if is_path else 0)
            self.assertLess(time.process_time() - begin, 40)

    def test_errors(self):
        store, question = self.scene()
        own = [(NO_STORES, InvalidStore), (odd_values() + [question[:8], with_item(question, 0, 1)], InvalidQuestion)]
        for function in (change_times, answers_over, times_let):
            self.checks(function, (store, question, 5, 9), own + [(NO_TIMES + [10], InvalidTime), (NO_TIMES + [4], InvalidTime)])
        self.checks(takes_over, (store, question, 5, 9, ()), own + [(NO_TIMES + [10], InvalidTime), (NO_TIMES + [4], InvalidTime), None])
