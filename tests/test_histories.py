"""Histories, and the lists that they tell: [26], [71], and what [3] says of deltas that a history tells."""

import random

from chainpapers.deltas import can_be_laid, laid_entries
from chainpapers.errors import InvalidHistory, InvalidNumber, TooMany
from chainpapers.histories import entries_after, history_list, is_history
from chainpapers.sealing import is_sealed_list
from chainpapers.stores import is_list
from tests.lists import ALL, OTHER, ROOT, some_history
from tests.support import Case, odd_values, spoiled


def change(serial, reason="key", when=5, issuer=ROOT):
    return (issuer, serial, when, reason)


ONE = (change(1), change(2, "hold"))
TWO = (change(1, "back", 9), change(3))
BOTH = (ONE, TWO)
FRAME = (ROOT, 5, 0, 100, ALL)
EIGHT = tuple(change(serial) for serial in range(9))
GOOD = [((),) * many for many in (0, 1, 2, 3, 4, 9, 30)] + [
    BOTH, (EIGHT[:8],) * 30, ((change(0, "back", 0), change(10 ** 6, "rights", 10 ** 9)),),
    ((change(5), change(5, issuer=OTHER)),)]
BAD = [((),) * 31, (EIGHT,), (ONE[::-1],), (ONE[:1] * 2,), ((change(1), change(1, "hold")),), [ONE], (list(ONE),), ONE,
       ((change(-1),),), ((change(10 ** 6 + 1),),), ((change(1, when=-1),),), ((change(1, when=10 ** 9 + 1),),),
       ((change(1, "any"),),), ((change(1, issuer=()),),), ((change(1)[:3],),), ((change(1) + (0,),),), (None,),
       ((change(5, issuer=OTHER), change(5)),)]
NO_FRAMES = odd_values() + list(spoiled(FRAME)) + [
    FRAME[:4], FRAME + (0,), (OTHER,) + FRAME[1:], FRAME[:2] + (5, 4, ALL), FRAME[:4] + (("all", False, ("hold",)),),
    FRAME[:4] + (("any", False, ()),), ((),) + FRAME[1:], FRAME[:1] + (2 ** 32,) + FRAME[2:], FRAME[:3] + (10 ** 9 + 1, ALL)]
NO_NUMBERS = odd_values(0, 1) + [-1, 3]


def told_entries(history, number, first=0, with_back=False):
    """The last changes in some steps, in the document's words."""
    changes = [one for step in history[first:number] for one in step]
    last = [one for at, one in enumerate(changes) if one[:2] not in [other[:2] for other in changes[at + 1:]]]
    return tuple(sorted(one for one in last if with_back or one[3] != "back"))


def histories(many):
    for seed in range(many):
        yield some_history(random.Random(seed))


class Histories(Case):
    def test_is_history(self):
        self.takes_just(is_history, GOOD, BAD)
        self.takes_no_spoiled(is_history, [BOTH])

    def test_entries(self):
        for history, _ in histories(300):
            for number in range(len(history) + 1):
                self.assertEqual(self.keeps(entries_after, history, number), told_entries(history, number))

    def test_entries_by_hand(self):
        self.assertEqual(entries_after((), 0), ())
        self.assertEqual(entries_after(BOTH, 0), ())
        self.assertEqual(entries_after(BOTH, 1), ONE)
        self.assertEqual(entries_after(BOTH, 2), (change(2, "hold"), change(3)))
        again = BOTH + ((change(1, "rights", 3), change(2, "back")), ((change(2, "key")),))
        self.assertEqual(entries_after(again, 3), (change(1, "rights", 3), change(3)))
        self.assertEqual(entries_after(again, 4), (change(1, "rights", 3), change(2, "key"), change(3)))

    def test_thirty_steps(self):
        undone = tuple((change(1, "hold" if at & 1 else "back", at),) for at in range(30))
        self.assertEqual(entries_after(undone, 30), (change(1, "hold", 29),))
        self.assertEqual(entries_after(undone, 29), ())
        many = tuple(tuple(change(8 * step + at) for at in range(8)) for step in range(30))
        self.assertEqual(entries_after(many, 30), tuple(change(serial) for serial in range(240)))

    def test_errors(self):
        no_histories = odd_values((), ((),), ((), ())) + BAD
        no_histories = [value for value in no_histories if not is_history(value)]
        self.checks(entries_after, (BOTH, 1), [(no_histories, InvalidHistory), (NO_NUMBERS, InvalidNumber)])
        no_bases = odd_values(0, 1, -1) + [-2, 2]
        self.checks(history_list, (BOTH, FRAME, -1, 2), [(no_histories, InvalidHistory), (NO_FRAMES, InvalidHistory),
                                                         (no_bases, InvalidNumber), (NO_NUMBERS, InvalidNumber)])
        self.raises(InvalidNumber, history_list, BOTH, FRAME, 0, 0)
        self.raises(InvalidNumber, history_list, BOTH, FRAME, 1, 1)
        self.raises(InvalidNumber, history_list, (), FRAME, -1, 1)


class Lists(Case):
    def test_lists_told(self):
        for history, frame in histories(200):
            for number in range(len(history) + 1):
                for base in range(-1, number):
                    own = self.keeps(history_list, history, frame, base, number)
                    first = 0 if base == -1 else base
                    entries = told_entries(history, number, first, base != -1)
                    self.assertEqual(own[:8], frame[:2] + (number, base) + frame[2:] + (entries,))
                    self.assertIs(is_list(own) and is_sealed_list(own), True)

    def test_a_delta_laid_on_any_whole_list(self):
        many = 0
        for history, frame in histories(200):
            for number in range(len(history) + 1):
                for base in range(number):
                    delta = history_list(history, frame, base, number)
                    for at in range(len(history) + 1):
                        whole = history_list(history, frame, -1, at)
                        self.assertIs(can_be_laid(whole, delta), base <= at < number)
                        if base <= at < number:
                            self.assertEqual(laid_entries(whole, delta), entries_after(history, number))
                            many += 1
        self.assertGreater(many, 500)

    def test_back_stands_in_deltas(self):
        self.assertEqual(history_list(BOTH, FRAME, 1, 2)[7], TWO)
        self.assertEqual(history_list(BOTH, FRAME, 0, 2)[7], (change(1, "back", 9), change(2, "hold"), change(3)))
        self.assertEqual(history_list(BOTH, FRAME, -1, 2)[7], (change(2, "hold"), change(3)))
        self.assertEqual(history_list((), FRAME, -1, 0)[2:8], (0, -1, 0, 100, ALL, ()))

    def test_frames(self):
        others, some = ("all", True, ()), ("heads", False, ("hold", "key"))
        mixed = ((change(1), change(1, issuer=OTHER)),)
        for history, frame, fits in (
                (BOTH, FRAME, True), (BOTH, (ROOT, 0, 7, 7, some), True), (BOTH, (OTHER, 5, 0, 9, ALL), False),
                (BOTH, (OTHER, 5, 0, 9, others), True), (mixed, FRAME, False), (mixed, FRAME[:4] + (others,), True),
                (BOTH, FRAME[:4] + (("all", False, ("key",)),), False), (BOTH[1:], FRAME[:4] + (("all", False, ("key",)),), True),
                ((), (OTHER, 2 ** 32 - 1, 0, 10 ** 9, ("users", False, ("key",))), True)):
            if fits:
                self.assertEqual(history_list(history, frame, -1, len(history))[:2], frame[:2])
            else:
                self.raises(InvalidHistory, history_list, history, frame, -1, 0)

    def test_what_is_no_frame_of_any_history(self):
        for frame in (((), 5, 0, 1, ALL), (ROOT, -1, 0, 1, ALL), (ROOT, 5, 1, 0, ALL), (ROOT, 5, 0, 1, ("all", True)),
                      (ROOT, 5, -1, 0, ALL), (("A",), 5, 0, 1, ("all", True, ()))):
            for history in ((), ((),)):
                self.raises(InvalidHistory, history_list, history, frame, -1, 0)

    def test_too_many_entries(self):
        history = tuple(tuple(change(8 * step + at) for at in range(8 if step < 3 else 6)) for step in range(4)) + ((change(99),),)
        self.assertEqual(len(history_list(history, FRAME, -1, 4)[7]), 30)
        self.assertEqual(len(history_list(history, FRAME, 0, 4)[7]), 30)
        self.raises(TooMany, history_list, history, FRAME, -1, 5, limit=30)
        self.raises(TooMany, history_list, history, FRAME, 0, 5, limit=30)
        self.assertEqual(len(history_list(history, FRAME, 1, 5)[7]), 23)
        given_back = history + (tuple(change(at, "back") for at in range(8)),)
        self.assertEqual(len(history_list(given_back, FRAME, -1, 6)[7]), 23)
        self.raises(TooMany, history_list, given_back, FRAME, 0, 6, limit=30)
        self.raises(InvalidNumber, history_list, history, FRAME, 5, 5)
