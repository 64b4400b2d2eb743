"""Deltas, and what they make of whole lists: [24], [70]."""

import itertools

from chainpapers.deltas import can_be_laid, laid_entries
from chainpapers.errors import InvalidDelta, InvalidList
from tests.lists import OTHER, ROOT, made, told_fits, told_laid, unsealed, worlds
from tests.support import Case
from tests.test_reaching import NO_LISTS
from tests.things import WHOLE


def entry(serial, reason="key", when=5, issuer=ROOT):
    return (issuer, serial, when, reason)


class Deltas(Case):
    def test_numbers(self):
        for number, base, own in itertools.product(range(6), range(6), range(6)):
            if base < own:
                is_one = base <= number < own
                self.assertIs(can_be_laid(made(number), made(own, base)), is_one, (number, base, own))

    def test_families_and_sorts(self):
        whole, delta = made(3), made(5, 2)
        self.assertIs(self.keeps(can_be_laid, whole, delta), True)
        self.assertIs(can_be_laid(unsealed(whole), unsealed(delta)), True)
        self.assertIs(can_be_laid(whole, made(5, 2, span=(900, 901))), True)
        for one, other in ((delta, whole), (whole, made(5)), (made(4, 3), delta), (whole, made(5, 2, issuer=OTHER)),
                           (whole, made(5, 2, sealer=6)), (whole, made(5, 2, scope=("all", True, ()))),
                           (whole, made(5, 2, scope=("heads", False, ()))), (whole, made(5, 2, scope=("all", False, ("key",)))),
                           (delta, delta), (whole, whole)):
            self.assertIs(can_be_laid(one, other), False, (one, other))
            self.raises(InvalidDelta, laid_entries, one, other)

    def test_laid_by_hand(self):
        for entries, changes, laid in (
                ((), (), ()), ((entry(1), entry(3)), (), (entry(1), entry(3))), ((), (entry(2),), (entry(2),)),
                ((entry(1), entry(3)), (entry(2),), (entry(1), entry(2), entry(3))),
                ((entry(1), entry(3)), (entry(1, "hold", 9),), (entry(1, "hold", 9), entry(3))),
                ((entry(1), entry(3)), (entry(3, "back"),), (entry(1),)), ((entry(1),), (entry(2, "back"),), (entry(1),)),
                ((entry(1),), (entry(1, "back"), entry(2, "hold")), (entry(2, "hold"),))):
            self.assertEqual(self.keeps(laid_entries, made(1, -1, entries), made(2, 0, changes)), laid)

    def test_entries_are_told_by_issuer_and_serial(self):
        scope = ("all", True, ())
        whole = made(1, -1, (entry(1), entry(1, issuer=OTHER)), scope)
        delta = made(2, 0, (entry(1, "back", issuer=OTHER), entry(2, issuer=OTHER)), scope)
        self.assertEqual(laid_entries(whole, delta), (entry(1), entry(2, issuer=OTHER)))

    def test_more_than_thirty_entries(self):
        whole = made(1, -1, tuple(entry(serial) for serial in range(0, 60, 2)))
        delta = made(2, 0, tuple(entry(serial) for serial in range(1, 61, 2)))
        self.assertEqual(laid_entries(whole, delta), tuple(entry(serial) for serial in range(60)))

    def test_at_random(self):
        many = 0
        for lists, _, _, _, _ in worlds(200):
            for one, other in itertools.product(lists, repeat=2):
                self.assertIs(can_be_laid(one, other), told_fits(one, other))
                if told_fits(one, other):
                    self.assertEqual(laid_entries(one, other), told_laid(one, other))
                    many += 1
        self.assertGreater(many, 200)

    def test_errors(self):
        two = [(NO_LISTS, InvalidList)] * 2
        self.checks(can_be_laid, (WHOLE, WHOLE), two)
        self.checks(laid_entries, (made(1), made(2, 0)), two)
        self.raises(InvalidList, laid_entries, made(1), made(2, 0)[:8])
