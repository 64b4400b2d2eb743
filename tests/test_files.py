"""Files: [10], [48], [49], and what [3] says of them."""

from chainpapers.errors import BadRow, BadSeal, InvalidNumber, InvalidRow, InvalidValue, TooMany
from chainpapers.files import file_row, open_file, places_of, read_file, sealed_file, values_ahead
from chainpapers.seals import seal_of
from chainpapers.valuerows import row_of
from tests.support import Case, nested, odd_values, same

NO_KEYS = odd_values(0, 1) + [-1, 2 ** 32]
NO_ROWS = odd_values((), (0,), (1, 2, 3), (0,) * 20000) + [[], (256,), (True,), (0,) * 20001]
NO_VALUES = odd_values((), (0,), ("a",), ((),), ((), ()), (True,), ("a", "b"), (1, 2, 3), ("house", 1),
                       ("letter", 1, 2), ((),) * 3, ((),) * 4, ((),) * 9)
NO_VALUES += [(0,) * 201, [0], (-2,), (0, "A"), (nested((), 10),), ((0,) * 61,), (True, None)]

LOTS = [(), (True,), (1,), (True, -1), (0, "ab", (), (1, (False, "z9"))), ((), (), ()), (2 ** 32 - 1, 127, 128)]
LONG = ("0" * 20,) * 60
# Five such values have 60 * 22 + 2 octets each, fifteen of them 19830.
LONG_FILE = (LONG,) * 15


class Files(Case):
    def test_files_are_rows_behind_each_other(self):
        for values in LOTS:
            row = self.keeps(file_row, values)
            self.assertEqual(row, tuple(octet for value in values for octet in row_of(value)))
            self.assertTrue(same(self.keeps(read_file, row), values))
            starts = tuple(sum(len(row_of(value)) for value in values[:at]) for at in range(len(values)))
            self.assertEqual(self.keeps(places_of, row), starts)
            self.assertTrue(same(self.keeps(values_ahead, row), (values, len(row))))

    def test_files_cut_anywhere(self):
        for values in LOTS:
            row = file_row(values)
            starts = places_of(row) + (len(row),)
            for at in range(len(row)):
                whole = max(many for many, start in enumerate(starts) if start <= at)
                self.assertTrue(same(values_ahead(row[:at]), (values[:whole], starts[whole])))
                if at in starts:
                    self.assertTrue(same(read_file(row[:at]), values[:whole]))
                    self.assertEqual(places_of(row[:at]), starts[:whole])
                else:
                    self.raises(BadRow, read_file, row[:at], at=at)
                    self.raises(BadRow, places_of, row[:at], at=at)

    def test_files_hurt(self):
        # Each file, the place at which it is refused, how many values are whole ahead of it, and where they end.
        for row, at, whole, behind in (((4, 1, 1, 0, 5), 4, 2, 4), ((4, 1, 1, 128, 0), 4, 1, 2), ((0,), 0, 0, 0),
                                       ((4, 2, 4, 1), 1, 0, 0), ((1, 0, 3, 2, 4, 0, 4, 7), 7, 1, 2),
                                       ((4, 0, 2, 1, 65, 4, 0), 4, 1, 2), ((4, 0, 4, 0, 3, 1), 6, 2, 4)):
            self.raises(BadRow, read_file, row, at=at)
            self.raises(BadRow, places_of, row, at=at)
            self.assertEqual(len(values_ahead(row)[0]), whole)
            self.assertEqual(values_ahead(row)[1], behind)

    def test_more_than_two_hundred_values_are_read(self):
        row = (4, 0) * 10000
        self.assertEqual(read_file(row), (False,) * 10000)
        self.assertEqual(places_of(row), tuple(range(0, 20000, 2)))
        self.assertEqual(values_ahead(row), ((False,) * 10000, 20000))

    def test_limits(self):
        self.assertEqual(file_row((0,) * 200), (1, 1) * 200)
        self.raises(InvalidValue, file_row, (0,) * 201)
        rest = 20000 - len(file_row(LONG_FILE))
        filled = LONG_FILE + (False,) * (rest // 2)
        self.assertEqual(rest, 170)
        self.assertEqual(len(file_row(filled)), 20000)
        self.raises(TooMany, file_row, filled + ("",), limit=20000)
        self.raises(TooMany, file_row, filled[:-1] + ("a",), limit=20000)
        self.raises(InvalidValue, file_row, (LONG,) * 199 + ("A",))

    def test_errors(self):
        self.checks(file_row, ((),), [(NO_VALUES, InvalidValue)])
        for function in (read_file, places_of, values_ahead):
            self.checks(function, ((),), [(NO_ROWS, InvalidRow)])


class SealedFiles(Case):
    def test_seal_is_one_value_more(self):
        for key in (0, 1, 5, 2 ** 32 - 1):
            for values in LOTS:
                row = self.keeps(sealed_file, key, values)
                ahead = file_row(values)
                self.assertTrue(same(read_file(row), values + (seal_of(key, ahead),)))
                self.assertTrue(same(self.keeps(open_file, key, row), values))

    def test_another_key_does_not_open(self):
        for values in LOTS:
            row = sealed_file(7, values)
            for key in (6, 8, 0, 2 ** 32 - 1):
                self.raises(BadSeal, open_file, key, row)

    def test_sealed_files_hurt_anywhere(self):
        row = sealed_file(9, LOTS[4])
        for at, there in enumerate(row):
            for octet in (there ^ 1, there ^ 2, there ^ 128):
                hurt = row[:at] + (octet,) + row[at + 1:]
                error = BadSeal if values_ahead(hurt)[1] == len(hurt) else BadRow
                self.raises(error, open_file, 9, hurt)

    def test_sealed_files_cut(self):
        row = sealed_file(9, LOTS[4])
        starts = places_of(row)
        for at in range(len(row)):
            if at in starts:
                self.raises(BadSeal, open_file, 9, row[:at])
            else:
                self.raises(BadRow, open_file, 9, row[:at], at=at)

    def test_what_is_no_seal(self):
        self.raises(BadSeal, open_file, 5, ())
        # The seal of no octets by the key 0 is 0, which False is no more than "" is.
        self.assertEqual(open_file(0, (1, 1)), ())
        self.raises(BadSeal, open_file, 0, (4, 0))
        self.raises(BadSeal, open_file, 0, (2, 0))
        self.raises(BadSeal, open_file, 0, (3, 1, 1, 1))
        self.raises(BadSeal, open_file, 5, (1, 30))

    def test_true_is_no_seal(self):
        # By this key the seal of no octets is 1.
        key = 2147450877
        self.assertEqual(seal_of(key, ()), 1)
        self.assertEqual(open_file(key, (1, 2)), ())
        self.raises(BadSeal, open_file, key, (4, 1))

    def test_limits(self):
        rest = 20000 - len(file_row(LONG_FILE))
        for key in (0, 3):
            found = set()
            for many in range(rest // 2 + 1):
                values = LONG_FILE + (False,) * many
                long = len(file_row(values)) + len(row_of(seal_of(key, file_row(values))))
                found.add(long > 20000)
                if long > 20000:
                    self.raises(TooMany, sealed_file, key, values, limit=20000)
                else:
                    self.assertEqual(len(sealed_file(key, values)), long)
            self.assertEqual(found, {True, False})
        self.raises(TooMany, sealed_file, 0, LONG_FILE * 2, limit=20000)
        self.assertEqual(len(read_file(sealed_file(0, (0,) * 200))), 201)

    def test_errors(self):
        self.checks(sealed_file, (0, ()), [(NO_KEYS, InvalidNumber), (NO_VALUES, InvalidValue)])
        self.checks(open_file, (0, (1, 1)), [(NO_KEYS, InvalidNumber), (NO_ROWS, InvalidRow)])
        self.raises(BadRow, open_file, 0, (1, 1, 5), at=2)
