"""Values with rows, and their rows: [5], [9], [47]."""

from chainpapers.errors import BadRow, InvalidRow, InvalidValue
from chainpapers.valuerows import first_refused, goes_on, is_value, read_value, row_of
from tests.support import Case, nested, odd_values, same
from tests.things import DELTA, FULL, STORE

NO_ROWS = odd_values((), (0,), (1, 2, 3), (0,) * 20000) + [[], (256,), (True,), (0,) * 20001]

# Values, with their rows worked out by hand.
ROWS = [
    (True, (4, 1)), (False, (4, 0)), (-1, (1, 0)), (0, (1, 1)), (1, (1, 2)), (126, (1, 127)), (127, (1, 128, 1)),
    (128, (1, 129, 1)), (254, (1, 255, 1)), (255, (1, 128, 2)), (16382, (1, 255, 127)), (16383, (1, 128, 128, 1)),
    (2 ** 21 - 2, (1, 255, 255, 127)), (2 ** 21 - 1, (1, 128, 128, 128, 1)),
    (2 ** 28 - 2, (1, 255, 255, 255, 127)), (2 ** 28 - 1, (1, 128, 128, 128, 128, 1)),
    (2 ** 32 - 2, (1, 255, 255, 255, 255, 15)), (2 ** 32 - 1, (1, 128, 128, 128, 128, 16)),
    ("", (2, 0)), ("a", (2, 1, 97)), ("z0", (2, 2, 122, 48)), ("9" * 20, (2, 20) + (57,) * 20),
    ((), (3, 0)), ((True,), (3, 1, 4, 1)), ((1, ()), (3, 2, 1, 2, 3, 0)), ((0,) * 60, (3, 60) + (1, 1) * 60),
    (nested((), 9), (3, 1) * 9 + (3, 0)), (("ab", (False, -1)), (3, 2, 2, 2, 97, 98, 3, 2, 4, 0, 1, 0)),
]
VALUES = [value for value, _ in ROWS] + [FULL, DELTA, STORE, (True, 1, (False, (0, "x" * 20), ()), "")]


def octets(*stretches):
    return tuple(octet for low, high in stretches for octet in range(low, high + 1))


SIGN_OCTETS = octets((48, 57), (97, 122))
DEEP = (3, 1) * 10
# Rows, with all octets with which they go on.
GOING_ON = [
    ((), (1, 2, 3, 4)), ((4,), (0, 1)), ((1,), octets((0, 255))), ((2,), octets((0, 20))), ((3,), octets((0, 60))),
    ((1, 128), octets((1, 255))), ((1, 255, 128), octets((1, 255))), ((1, 128, 255, 128), octets((1, 255))),
    ((1, 128, 128, 128, 128), octets((1, 16))), ((1, 129, 128, 128, 128), octets((1, 15))),
    ((1, 128, 129, 128, 128), octets((1, 15))), ((1, 128, 128, 129, 128), octets((1, 15))),
    ((1, 128, 128, 128, 129), octets((1, 15))), ((1, 255, 255, 255, 255), octets((1, 15))),
    ((2, 1), SIGN_OCTETS), ((2, 20) + (48,) * 19, SIGN_OCTETS), ((2, 3, 97, 98), SIGN_OCTETS),
    ((3, 1), (1, 2, 3, 4)), ((3, 2, 4, 0), (1, 2, 3, 4)), ((3, 60) + (4, 1) * 59, (1, 2, 3, 4)),
    ((3, 1) * 9, (1, 2, 3, 4)), (DEEP, (1, 2, 4)), ((3, 2) * 10 + (4, 1), (1, 2, 4)), ((3, 1) * 9 + (3,), octets((0, 60))),
    ((3, 2) + (3, 1) * 9 + (4, 1), (1, 2, 3, 4)), ((3, 2, 2, 0), (1, 2, 3, 4)), ((3, 2, 3, 0), (1, 2, 3, 4)),
    ((4, 0), ()), ((1, 0), ()), ((1, 127), ()), ((2, 0), ()), ((3, 0), ()), ((2, 1, 97), ()), ((3, 1, 3, 0), ()),
    ((1, 128, 128, 128, 128, 16), ()), (DEEP + (4, 1), ()),
    ((0,), None), ((5,), None), ((4, 2), None), ((1, 0, 1), None), ((1, 128, 0), None), ((2, 21), None),
    ((3, 61), None), ((2, 128), None), ((3, 128), None), ((2, 1, 47), None), ((2, 1, 58), None), ((2, 1, 96), None),
    ((2, 1, 123), None), ((2, 1, 65), None), ((1, 128, 128, 128, 128, 17), None), ((1, 129, 128, 128, 128, 16), None),
    ((1, 128, 128, 128, 128, 0), None), ((1, 255, 255, 255, 255, 128), None), (DEEP + (3,), None), ((4, 1, 4), None),
]


def completed(row):
    """The row of a value that begins with a row, made by the octets that come to an end soonest."""
    while True:
        following = goes_on(row)
        if following == ():
            return row
        row += (4,) if following[-1] == 4 else following[:1]


class Values(Case):
    def test_which_values_have_a_row(self):
        good = VALUES + [None is None, "a" * 20, "any", 1, 0, -1, 2 ** 32 - 1, (0,) * 60, nested("", 10)]
        good += [("a",), ("a", "b"), (1, 2, 3), ("letter", 1, 2), ("house", 1), (0,), ((),), ((), ()), (True,)]
        good += [((),) * 3, ((),) * 4, ((),) * 9, "a"]
        self.takes_just(is_value, good, [
            -2, 2 ** 32, "a" * 21, "A", "a b", "@", None, [], (0,) * 61, nested((), 10), nested(0, 11), ([],), (None,),
            ((0, (0, -2)),), ("", ("", "B")), (True, [True])])

    def test_depth_counts_along_each_branch(self):
        self.assertIs(is_value((nested((), 8),) * 60), True)
        self.assertIs(is_value((0, nested((), 9))), False)
        self.assertIs(is_value((nested((), 8), 0, nested((), 9))), False)


class Rows(Case):
    def test_rows_by_hand(self):
        for value, row in ROWS:
            self.assertEqual(self.keeps(row_of, value), row)
            self.assertTrue(same(self.keeps(read_value, row), value), value)

    def test_rows_lead_back(self):
        for value in VALUES:
            self.assertTrue(same(read_value(row_of(value)), value))
            self.assertIsNone(first_refused(row_of(value)))
            self.assertEqual(goes_on(row_of(value)), ())

    def test_a_row_may_be_of_any_length(self):
        value = (("0" * 20,) * 60,) * 60
        row = row_of(value)
        self.assertEqual(len(row), 2 + 60 * (2 + 60 * 22))
        self.raises(InvalidRow, read_value, row)
        self.raises(InvalidRow, first_refused, row)
        self.raises(InvalidRow, goes_on, row)
        self.raises(BadRow, read_value, row[:20000], at=20000)
        self.assertEqual(first_refused(row[:20000]), 20000)
        self.assertEqual(goes_on(row[:20000])[:3], SIGN_OCTETS[:3])

    def test_the_longest_row_is_read(self):
        filler = tuple(("0" * 20,) * 60 for _ in range(15))
        rest = 20000 - len(row_of(filler + ((),)))
        value = filler + (("0" * 20,) * (rest // 22) + ((("0" * (rest % 22 - 2)),)),)
        self.assertEqual(len(row_of(value)), 20000)
        self.assertTrue(same(read_value(row_of(value)), value))

    def test_equal_values_of_unlike_sorts_have_unlike_rows(self):
        self.assertNotEqual(row_of(True), row_of(1))
        self.assertNotEqual(row_of((0,)), row_of((False,)))

    def test_goes_on_by_hand(self):
        for row, following in GOING_ON:
            self.assertEqual(self.keeps(goes_on, row), following, row)

    def test_whatever_goes_on_ends_in_a_value(self):
        for row, following in GOING_ON:
            for octet in following or ():
                whole = completed(row + (octet,))
                self.assertEqual(row_of(read_value(whole)), whole)

    def test_rows_cut_anywhere(self):
        for value in VALUES[:-2]:
            row = row_of(value)
            for at in range(len(row)):
                self.assertIn(row[at], goes_on(row[:at]))
                self.assertEqual(first_refused(row[:at]), at)
                self.raises(BadRow, read_value, row[:at], at=at)

    def test_rows_with_more_behind(self):
        for value in VALUES:
            row = row_of(value)
            for octet in (0, 1, 4, 255):
                self.assertEqual(first_refused(row + (octet, 1)), len(row))
                self.assertIsNone(goes_on(row + (octet,)))
                self.raises(BadRow, read_value, row + (octet,), at=len(row))

    def test_rows_hurt_at_each_octet(self):
        for value in [value for value, row in ROWS if len(row) < 30] + [(True, 1, (False, (0, "x" * 3), ()), "")]:
            row = row_of(value)
            for at in range(len(row)):
                following = goes_on(row[:at])
                for octet in range(256):
                    hurt = row[:at] + (octet,) + row[at + 1:]
                    if octet not in following:
                        self.assertEqual(first_refused(hurt), at)
                        self.assertIsNone(goes_on(hurt[:at + 1]))
                    self.check_hurt(hurt)

    def check_hurt(self, row):
        """A row is that of the value read from it, or is refused where nothing goes on."""
        at = first_refused(row)
        if at is None:
            self.assertEqual(row_of(read_value(row)), row)
            return
        self.raises(BadRow, read_value, row, at=at)
        following = goes_on(row[:at])
        self.assertIsNotNone(following)
        self.assertTrue(at == len(row) or row[at] not in following)
        self.assertTrue(at < len(row) or following)

    def test_no_row_begins_another_one(self):
        rows = sorted(row_of(value) for value in VALUES)
        for at in range(1, len(rows)):
            self.assertNotEqual(rows[at][:len(rows[at - 1])], rows[at - 1])

    def test_errors(self):
        self.checks(row_of, (0,), [([-2, 2 ** 32, None, "A", [], nested((), 10), (0,) * 61, "~" * 20000], InvalidValue)])
        for function in (read_value, first_refused, goes_on):
            self.checks(function, ((4, 0),), [(NO_ROWS, InvalidRow)])
        for value in odd_values():
            if not is_value(value):
                self.raises(InvalidValue, row_of, value)
        self.raises(BadRow, read_value, (), at=0)
        self.assertEqual((first_refused(()), first_refused((0,)), first_refused((4, 1, 1))), (0, 0, 2))
