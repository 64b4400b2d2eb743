"""How many certificates may follow: [13], [16], [59]."""

import itertools

from chainpapers.certificates import with_part
from chainpapers.depths import counted_behind, depth_of, left_row
from chainpapers.errors import InvalidCertificate, InvalidChain, InvalidNumber
from tests.support import Case, odd_values
from tests.test_rights import NO_CERTIFICATES, NO_CHAINS
from tests.things import PLAIN, SELF

OPEN = with_part(PLAIN, "basic", (True, -1))


def head(depth, itself=False):
    return with_part(SELF if itself else PLAIN, "basic", (True, depth))


def told_left(depth, chain):
    """The row of what is left, by counting behind each depth: the least of what all of them leave."""
    row = []
    for at in range(len(chain) - 1):
        lefts = []
        for place, d in [(-1, depth)] + [(place, depth_of(chain[place])) for place in range(at + 1)]:
            if d >= 0:
                lefts.append(d - sum(1 for one in chain[place + 1:at + 1] if one[1] != one[2]))
        left = min(lefts, default=-1)
        if lefts and left < 0:
            return row + [-2]
        row.append(left)
    return row


class Depths(Case):
    def test_depth_of(self):
        self.assertEqual(depth_of(PLAIN), -1)
        self.assertEqual(depth_of(with_part(PLAIN, "basic", (False, -1))), -1)
        for depth in range(-1, 9):
            self.assertEqual(self.keeps(depth_of, head(depth)), depth)

    def test_counted_behind(self):
        for many in range(1, 6):
            for kinds in itertools.product((PLAIN, SELF), repeat=many):
                for place in range(-1, many):
                    counted = [at for at in range(place + 1, many - 1) if kinds[at] == PLAIN]
                    self.assertEqual(self.keeps(counted_behind, kinds, place), counted)
        self.assertEqual(counted_behind((PLAIN,) * 8, -1), [0, 1, 2, 3, 4, 5, 6])
        self.assertEqual(counted_behind((PLAIN,), -1), [])
        self.assertEqual(counted_behind((PLAIN,) * 8, 7), [])

    def test_left_rows(self):
        kinds = [PLAIN, head(0), head(1), head(2), head(0, True), head(1, True), SELF]
        for many in range(1, 5):
            for chain in itertools.product(kinds, repeat=many):
                for depth in (-1, 0, 1, 2, 8):
                    self.assertEqual(left_row(depth, chain), told_left(depth, chain), (depth, chain))

    def test_left_rows_by_hand(self):
        for depth, chain, row in (
                (-1, (PLAIN,), []), (0, (PLAIN,), []), (8, (head(0),), []), (-1, (OPEN,) * 8, [-1] * 7),
                (8, (OPEN,) * 8, [7, 6, 5, 4, 3, 2, 1]), (3, (OPEN,) * 8, [2, 1, 0, -2]), (0, (OPEN,) * 8, [-2]),
                (0, (SELF,) * 8, [0] * 7), (-1, (SELF,) * 3, [-1, -1]), (5, (head(2), OPEN, OPEN), [2, 1]),
                (2, (head(5), OPEN, OPEN), [1, 0]), (-1, (head(3), head(8), head(0), OPEN, OPEN), [3, 2, 0, -2]),
                (4, (head(0, True), head(5, True), OPEN), [0, 0]), (1, (head(0, True), OPEN, OPEN), [0, -2]),
                (-1, (with_part(PLAIN, "basic", None), PLAIN), [-1]), (1, (PLAIN, PLAIN, PLAIN), [0, -2])):
            self.assertEqual(self.keeps(left_row, depth, chain), row, (depth, row))

    def test_errors(self):
        no_depths = odd_values(0, 1, -1) + [-2, 9]
        no_places = odd_values(0, 1, -1) + [-2, 2]
        self.checks(depth_of, (PLAIN,), [(NO_CERTIFICATES, InvalidCertificate)])
        self.checks(counted_behind, ((PLAIN, SELF), 0), [(NO_CHAINS, InvalidChain), (no_places, InvalidNumber)])
        self.checks(left_row, (0, (PLAIN,)), [(no_depths, InvalidNumber), (NO_CHAINS, InvalidChain)])
        self.raises(InvalidNumber, counted_behind, (PLAIN,), 1)
