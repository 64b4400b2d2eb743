"""Ordered rows: [9], [53], and what [3] says of them."""

import itertools

from chainpapers.errors import BadRow, InvalidRow, InvalidValue
from chainpapers.orderrows import order_goes_on, order_row, read_order
from tests.support import Case, nested, odd_values, same
from tests.things import FULL, STORE

NO_ROWS = odd_values((), (0,), (1, 2, 3), (0,) * 20000) + [[], (256,), (True,), (0,) * 20001]
NO_VALUES = [None, [], -2, 2 ** 32, "A", "a" * 21, nested((), 10), (0,) * 61, (0, None), "~" * 20000]

# Values, with their ordered rows worked out by hand.
ROWS = [
    (False, (1, 0)), (True, (1, 1)), (-1, (2, 0, 0, 0, 0, 0)), (0, (2, 0, 0, 0, 0, 1)), (254, (2, 0, 0, 0, 0, 255)),
    (255, (2, 0, 0, 0, 1, 0)), (65535, (2, 0, 0, 1, 0, 0)), (2 ** 24 - 1, (2, 0, 1, 0, 0, 0)),
    (2 ** 32 - 2, (2, 0, 255, 255, 255, 255)), (2 ** 32 - 1, (2, 1, 0, 0, 0, 0)),
    ("", (3, 0)), ("0", (3, 48, 0)), ("az", (3, 97, 122, 0)), ("9" * 20, (3,) + (57,) * 20 + (0,)),
    ((), (4, 0)), ((True,), (4, 1, 1, 0)), ((1, ()), (4, 2, 0, 0, 0, 0, 2, 4, 0, 0)),
    (nested((), 9), (4,) * 10 + (0,) * 10), ((False,) * 60, (4,) + (1, 0) * 60 + (0,)),
    (("ab", (False,)), (4, 3, 97, 98, 0, 4, 1, 0, 0, 0)),
]
VALUES = [value for value, _ in ROWS] + [FULL, STORE, (True, 1, (False, (0, "x" * 20), ()), "")]


def octets(*stretches):
    return tuple(octet for low, high in stretches for octet in range(low, high + 1))


SIGN_OCTETS = octets((48, 57), (97, 122))
GOING_ON = [
    ((), (1, 2, 3, 4)), ((1,), (0, 1)), ((2,), (0, 1)), ((2, 0), octets((0, 255))), ((2, 0, 255, 255, 255), octets((0, 255))),
    ((2, 1), (0,)), ((2, 1, 0), (0,)), ((2, 1, 0, 0, 0), (0,)), ((2, 0, 1), octets((0, 255))),
    ((3,), (0,) + SIGN_OCTETS), ((3,) + (97,) * 19, (0,) + SIGN_OCTETS), ((3,) + (97,) * 20, (0,)),
    ((4,), (0, 1, 2, 3, 4)), ((4, 1, 0), (0, 1, 2, 3, 4)), ((4,) * 9, (0, 1, 2, 3, 4)), ((4,) * 10, (0, 1, 2, 3)),
    ((4,) * 10 + (1, 0), (0, 1, 2, 3)), ((4,) * 10 + (0,), (0, 1, 2, 3, 4)), ((4,) + (1, 0) * 59, (0, 1, 2, 3, 4)),
    ((4,) + (1, 0) * 60, (0,)), ((4,) + (4, 0) * 60, (0,)), ((4, 4) + (3, 0) * 60, (0,)),
    ((4, 4) + (3, 0) * 60 + (0,), (0, 1, 2, 3, 4)),
    ((1, 0), ()), ((2, 0, 0, 0, 0, 0), ()), ((2, 1, 0, 0, 0, 0), ()), ((3, 0), ()), ((4, 0), ()), ((4, 4, 0, 0), ()),
    ((0,), None), ((5,), None), ((1, 2), None), ((2, 2), None), ((2, 1, 1), None), ((2, 1, 0, 0, 0, 1), None),
    ((3, 47), None), ((3, 58), None), ((3, 96), None), ((3, 123), None), ((3,) + (97,) * 21, None), ((4, 5), None),
    ((4,) * 11, None), ((4,) + (1, 0) * 60 + (1,), None), ((4, 0, 0), None), ((1, 0, 0), None), ((3, 0, 0), None),
]


def completed(row):
    """The ordered row of a value that begins with a row, made by the octets that come to an end soonest."""
    while True:
        following = order_goes_on(row)
        if following == ():
            return row
        row += following[:1]


class OrderRows(Case):
    def test_rows_by_hand(self):
        for value, row in ROWS:
            self.assertEqual(self.keeps(order_row, value), row)
            self.assertTrue(same(self.keeps(read_order, row), value))

    def test_rows_lead_back(self):
        for value in VALUES:
            row = order_row(value)
            self.assertTrue(same(read_order(row), value))
            self.assertEqual(order_goes_on(row), ())

    def test_goes_on_by_hand(self):
        for row, following in GOING_ON:
            self.assertEqual(self.keeps(order_goes_on, row), following, row)

    def test_whatever_goes_on_ends_in_a_value(self):
        for row, following in GOING_ON:
            for octet in following or ():
                whole = completed(row + (octet,))
                self.assertEqual(order_row(read_order(whole)), whole)

    def test_rows_cut_anywhere_or_with_more_behind(self):
        for value in VALUES[:-2]:
            row = order_row(value)
            for at in range(len(row)):
                self.assertIn(row[at], order_goes_on(row[:at]))
                self.raises(BadRow, read_order, row[:at], at=at)
            for octet in (0, 1, 4):
                self.raises(BadRow, read_order, row + (octet, 0), at=len(row))
                self.assertIsNone(order_goes_on(row + (octet,)))

    def test_rows_hurt_at_each_octet(self):
        for value in [value for value, row in ROWS if len(row) < 25] + [(True, 1, (False, (0, "x" * 3), ()), "")]:
            row = order_row(value)
            for at in range(len(row)):
                following = order_goes_on(row[:at])
                for octet in range(256):
                    self.check_hurt(row[:at] + (octet,) + row[at + 1:], at, octet in following)

    def check_hurt(self, row, at, goes_on):
        try:
            value = read_order(row)
        except BadRow as error:
            refused = error.at
            self.assertEqual(goes_on, refused > at)
            following = order_goes_on(row[:refused])
            self.assertTrue(following if refused == len(row) else row[refused] not in following)
            self.assertTrue(refused == len(row) or order_goes_on(row[:refused + 1]) is None)
        else:
            self.assertTrue(goes_on)
            self.assertEqual(order_row(value), row)

    def test_lesser_values_have_lesser_ordered_rows(self):
        small = [(), (0,), (1,), (0, 0), (0, 1), (1, 0), (0, 0, 0), (255,), (256,)]
        numbers = [-1, 0, 1, 2, 9, 10, 127, 128, 254, 255, 256, 65534, 65535, 2 ** 24, 2 ** 31, 2 ** 32 - 2, 2 ** 32 - 1]
        strings = ["", "0", "00", "9", "a", "a0", "aa", "aaa", "ab", "b", "z" * 19, "z" * 20]
        words = [(), ("a",), ("a", "a"), ("a", ""), ("",), ("a0",), ("b",), ("", "a"), ("aa", "b"), ("a", "ab")]
        families = [[False, True], numbers, strings, small, words, list(itertools.product(small, words)),
                    list(itertools.product(strings, [True, False], [5, 3]))]
        for family in families:
            rows = [(value, order_row(value)) for value in family]
            for one, row in rows:
                for other, other_row in rows:
                    self.assertEqual(one < other, row < other_row, (one, other))

    def test_a_long_row(self):
        value = (("0" * 20,) * 60,) * 20
        row = order_row(value)
        self.assertEqual(len(row), 2 + 20 * (2 + 60 * 22))
        self.raises(InvalidRow, read_order, row)
        self.raises(BadRow, read_order, row[:20000], at=20000)

    def test_errors(self):
        self.checks(order_row, (0,), [(NO_VALUES, InvalidValue)])
        self.checks(read_order, ((1, 0),), [(NO_ROWS, InvalidRow)])
        self.checks(order_goes_on, ((1, 0),), [(NO_ROWS, InvalidRow)])
        self.raises(BadRow, read_order, (), at=0)
