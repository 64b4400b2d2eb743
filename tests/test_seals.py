"""Keys, rows and seals: [5], [43]."""

from chainpapers.errors import InvalidNumber, InvalidRow
from chainpapers.seals import is_row, seal_of
from tests.support import Case, odd_values

TOP = 2 ** 32 - 1
NO_KEYS = odd_values(0, 1) + [-1, 2 ** 32]
NO_ROWS = odd_values((), (0,), (1, 2, 3), (0,) * 20000) + [[1], (256,), (-1,), (True,), (0,) * 20001, (0, "a")]


def told_seal(key, row):
    """The seal in the document's words."""
    there = key % 4294967291
    for octet in row:
        there = (257 * there + octet + 1) % 4294967291
    return (there ** 2 + key) % 4294967291


class Seals(Case):
    def test_rows(self):
        self.takes_just(is_row, [(), (0,), (255,), (0, 255), (1, 2, 3), (255,) * 20000, (0,) * 20000],
                        [[1], [], (256,), (-1,), (0,) * 20001, (0, None), (0, (1,)), ("a",)])
        self.takes_no_spoiled(is_row, [(0, 1, 255)])

    def test_seals_at_the_bounds_of_keys(self):
        for key in (0, 1, 4294967290, 4294967291, 4294967292, TOP):
            for row in ((), (0,), (255,), (1, 2, 3), (255, 0) * 300):
                self.assertEqual(seal_of(key, row), told_seal(key, row))
        self.assertEqual(seal_of(0, ()), 0)
        self.assertEqual(seal_of(TOP, ()), 20)
        self.assertEqual(seal_of(4294967291, ()), 0)
        self.assertEqual(seal_of(0, (0,)), 1)
        self.assertEqual(seal_of(0, (0, 0)), 258 ** 2)

    def test_seal_of_the_longest_row(self):
        row = tuple(at * 7 % 256 for at in range(20000))
        self.assertEqual(self.keeps(seal_of, 9, row), told_seal(9, row))

    def test_zero_octets_count(self):
        self.assertEqual(len({seal_of(0, (0,) * many) for many in range(50)}), 50)

    def test_errors(self):
        self.checks(seal_of, (0, ()), [(NO_KEYS, InvalidNumber), (NO_ROWS, InvalidRow)])
