"""Changes of rows and of values: [10], [51], [52]."""

import itertools

from chainpapers.errors import InvalidChange, InvalidRow, InvalidValue, TooMany
from chainpapers.rowchanges import change_back, change_of, changed_row, changed_value, changes_of
from tests.support import Case, nested, odd_values, same
from tests.things import FULL, PLAIN, STORE, with_item

NO_ROWS = odd_values((), (0,), (1, 2, 3), (0,) * 20000) + [[], (256,), (True,), (0,) * 20001]
NO_VALUES = [None, [], -2, 2 ** 32, "A", nested((), 10), (0,) * 61, (0, None), "~" * 20000]

SMALL_ROWS = [row for many in range(5) for row in itertools.product((1, 2), repeat=many)]


def leading(one, other):
    """All changes that lead from one row to another."""
    found = []
    for at in range(len(one) + 1):
        for many in range(len(one) - at + 1):
            long = len(other) - len(one) + many
            change = (at, many, other[at:at + max(long, 0)])
            if long >= 0 and one[:at] + change[2] + one[at + many:] == other:
                found.append(change)
    return found


class Rows(Case):
    def test_change_with_the_greatest_place_and_then_the_least_taken_out(self):
        for one in SMALL_ROWS:
            for other in SMALL_ROWS:
                changes = leading(one, other)
                self.assertEqual(change_of(one, other), max(changes, key=lambda change: (change[0], -change[1])))
                fewest = min(change[1] + len(change[2]) for change in changes)
                told = self.keeps(change_of, one, other)
                self.assertEqual(told[1] + len(told[2]), fewest)

    def test_change_by_hand(self):
        for one, other, change in (((), (), (0, 0, ())), ((1, 2), (1, 2), (2, 0, ())), ((), (1, 2), (0, 0, (1, 2))),
                                   ((1, 2), (), (0, 2, ())), ((7, 7, 7), (7, 7), (2, 1, ())), ((7,), (8,), (0, 1, (8,))),
                                   ((1, 2, 1, 2), (1, 2), (2, 2, ())), ((1, 2), (1, 2, 1, 2), (2, 0, (1, 2))),
                                   ((1, 2, 3, 4), (1, 3, 4), (1, 1, ())), ((1, 1, 2), (1, 2), (1, 1, ()))):
            self.assertEqual(change_of(one, other), change)

    def test_changes_lead_there_and_back(self):
        for one in SMALL_ROWS:
            for other in SMALL_ROWS:
                change = change_of(one, other)
                self.assertEqual(changed_row(one, change), other)
                self.assertEqual(changed_row(other, change_back(one, change)), one)

    def test_all_changes_of_a_row(self):
        row = (1, 2, 3)
        for at in range(4):
            for many in range(4 - at):
                for octets in ((), (0,), (255, 255), (2, 3)):
                    change = (at, many, octets)
                    there = self.keeps(changed_row, row, change)
                    self.assertEqual(there, row[:at] + octets + row[at + many:])
                    back = self.keeps(change_back, row, change)
                    self.assertEqual(back, (at, len(octets), row[at:at + many]))
                    self.assertEqual(changed_row(there, back), row)

    def test_what_is_no_change(self):
        bad = [(4, 0, ()), (-1, 0, ()), (0, 4, ()), (1, 3, ()), (3, 1, ()), (0, -1, ()), (0, 0, (256,)), (0, 0, [1]),
               (0, 0, (0,) * 20001), (0, 0), (0, 0, (), ()), [0, 0, ()], (True, 0, ()), (0, False, ()), (0, 0, (True,)),
               (0, 0, None), (None, 0, ()), ("a", 0, ())]
        for change in bad + odd_values():
            for function in (changed_row, change_back):
                self.raises(InvalidChange, function, (1, 2, 3), change)

    def test_how_long_a_changed_row_may_be(self):
        row = (5,) * 20000
        self.assertEqual(changed_row(row, (20000, 0, ())), row)
        self.assertEqual(changed_row(row, (7, 1, (6,))), (5,) * 7 + (6,) + (5,) * 19992)
        self.assertEqual(len(changed_row((), (0, 0, row))), 20000)
        for change in ((0, 0, (1,)), (20000, 0, (1,)), (10, 2, (1, 1, 1)), (1, 0, row)):
            self.raises(TooMany, changed_row, row, change, limit=20000)
        self.assertEqual(change_back(row, (1, 2, row)), (1, 20000, (5, 5)))
        self.assertEqual(change_of(row, (6,) + row[1:]), (0, 1, (6,)))

    def test_errors(self):
        self.checks(change_of, ((), ()), [(NO_ROWS, InvalidRow), (NO_ROWS, InvalidRow)])
        for function in (changed_row, change_back):
            self.checks(function, ((), (0, 0, ())), [(NO_ROWS, InvalidRow), ([(1, 0, ()), None], InvalidChange)])
        self.raises(InvalidChange, changed_row, (0,) * 20000, (20001, 0, (0,) * 20000))


VALUES = [0, 1, True, False, "", "a", (), (0,), (1,), (True,), (1, (2, 3), "a"), (True, (2, 3), "a"), ((), ()),
          ((1, 2), (3, 4)), ((1, 2), (3,)), ((1, 2), (True, 4)), (0, 0), (False, False), PLAIN, FULL,
          with_item(FULL, 0, 5), nested(0, 10), nested(1, 10), nested(True, 10), STORE]


class Values(Case):
    def test_changes_lead_there_at_the_outermost_places(self):
        for one in VALUES:
            for other in VALUES:
                changes = self.keeps(changes_of, one, other)
                self.assertTrue(same(changed_value(one, changes), other), (one, other))
                self.assertEqual(changes == (), same(one, other))
                self.assertEqual(list(changes), sorted(changes, key=lambda change: change[0]))
                for path, value in changes:
                    self.check_change(one, other, path, value)

    def check_change(self, one, other, path, value):
        """All around the path are tuples of the same length; what is there is unlike, and not both such tuples."""
        for index in path:
            self.assertTrue(isinstance(one, tuple) and isinstance(other, tuple) and len(one) == len(other))
            one, other = one[index], other[index]
        self.assertTrue(same(other, value))
        self.assertFalse(same(one, other))
        self.assertFalse(isinstance(one, tuple) and isinstance(other, tuple) and len(one) == len(other))

    def test_by_hand(self):
        for one, other, changes in ((0, 0, ()), ((), (), ()), (0, 1, (((), 1),)), (1, True, (((), True),)),
                                    (False, 0, (((), 0),)), ((), (0,), (((), (0,)),)), ((1,), 1, (((), 1),)),
                                    ((1, 2), (1, 2, 3), (((), (1, 2, 3)),)), (((1,), 0), ((1, 2), 0), (((0,), (1, 2)),)),
                                    ((1, (True, 0)), (1, (1, 0)), (((1, 0), 1),)), ("a", "b", (((), "b"),)),
                                    ((0, (1, 2), 3), (9, (9, 2), 9), (((0,), 9), ((1, 0), 9), ((2,), 9)))):
            found = changes_of(one, other)
            self.assertTrue(same(found, changes), (one, other, found))

    def test_many_changes(self):
        zeros, ones = ((0,) * 60,) * 60, ((1,) * 60,) * 60
        changes = changes_of(zeros, ones)
        self.assertEqual(len(changes), 3600)
        self.raises(InvalidChange, changed_value, zeros, changes)
        self.raises(InvalidChange, changed_value, zeros, changes[:1001])
        self.assertEqual(sum(map(sum, changed_value(zeros, changes[:1000]))), 1000)
        self.assertEqual(changed_value(zeros, changes[:1000])[16], (1,) * 40 + (0,) * 20)

    def test_changed_by_hand(self):
        value = (1, (2, 3), "a")
        for changes, changed in (((), value), ((((), True),), True), ((((0,), "z"),), ("z", (2, 3), "a")),
                                 ((((1, 0), ()), ((1, 1), (1,))), (1, ((), (1,)), "a")),
                                 ((((0,), 0), ((1,), 0), ((2,), 0)), (0, 0, 0)),
                                 ((((1,), (5, 6, 7)), ((2,), 0)), (1, (5, 6, 7), 0)),
                                 ((((0,), 1),), value)):
            self.assertTrue(same(self.keeps(changed_value, value, changes), changed))

    def test_what_are_no_changes(self):
        value = (1, (2, 3), "a")
        bad = [
            (((3,), 0),), (((-1,), 0),), (((True,), 0),), (((0, 0), 0),), (((1, 2), 0),), (((1, 0, 0), 0),),
            (((2, 0), 0),), ((([0]), 0),), ((0, 0),), (("a", 0),), (((0,), None),), (((0,), -2),), (((0,), [1]),),
            (((0,), "A"),), (((0,),),), (((0,), 0, 0),), ([(0,), 0],), [((0,), 0)], ((0,), 0),
            (((0,), 0), ((0,), 0)), (((0,), 0), ((0,), 1)), (((1,), 0), ((0,), 0)), (((1,), 0), ((1, 0), 0)),
            (((1, 0), 0), ((1,), 0)), (((), 0), ((0,), 0)), (((), 0), ((), 0)), (((), 1), ((1, 1), 0)),
            (((1,), 0), ((1, 0), 0), ((2,), 0)), (((0,), 0), ((1,), 0), ((1, 1), 0)), (((1, 1), 0), ((1, 0), 0)),
        ]
        for changes in bad + odd_values(()):
            self.raises(InvalidChange, changed_value, value, changes)
        self.raises(InvalidChange, changed_value, 0, (((0,), 0),))
        self.raises(InvalidChange, changed_value, "ab", (((0,), "a"),))
        self.raises(InvalidChange, changed_value, (), (((0,), 0),))

    def test_what_is_left_must_have_a_row(self):
        deep = nested(0, 10)
        path = (0,) * 10
        self.assertEqual(changed_value(deep, ((path, "z"),)), nested("z", 10))
        self.raises(InvalidChange, changed_value, deep, ((path, ()),))
        self.assertEqual(changed_value(deep, ((path[1:], ()),)), nested((), 9))
        self.raises(InvalidChange, changed_value, deep, ((path[1:], ((),)),))
        self.assertEqual(changed_value(deep, (((), nested((), 9)),)), nested((), 9))
        self.raises(InvalidChange, changed_value, (0,), (((0,), nested((), 9)),))
        self.assertEqual(changed_value((0,), (((0,), nested((), 8)),)), nested((), 9))

    def test_errors(self):
        self.checks(changes_of, (0, 0), [(NO_VALUES, InvalidValue), (NO_VALUES, InvalidValue)])
        self.checks(changed_value, ((0,), ()), [(NO_VALUES, InvalidValue), ([None, (((1,), 0),)], InvalidChange)])
