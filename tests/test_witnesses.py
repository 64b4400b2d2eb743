"""Titles that show what regions have: [56]."""

from chainpapers.errors import InvalidRegion
from chainpapers.regions import is_in, join_of, less_of, other_of, region_of, whole_region
from chainpapers.subtrees import is_title
from chainpapers.witnesses import apart_paper, cover_paper, title_in
from tests.support import Case, odd_values
from tests.test_regions import NOTHING, REGIONS, marks_in

FOUR = ("a", "b", "c", "d")
NO_REGIONS = odd_values(NOTHING) + [NOTHING[:3], list(NOTHING), ((((), False),), (), (), ())]

# Words as a search may try them first: none of these is free.
TAKEN = sorted({f"{first}{at}" for first in ("", "w", "a", "x", "word") for at in range(30)} | set("abcdefghijklmnopqrstuvwxyz"))
FEW_LEFT = (((), True),) + tuple(((word,), False) for word in TAKEN)
FEW_BOXES = ((("x",), True),) + tuple((("x",) + (item,), False) for item in sorted(["@" + word for word in TAKEN] + TAKEN))


class Witnesses(Case):
    def test_title_in_each_region(self):
        for region in REGIONS:
            title = self.keeps(title_in, region)
            if region == NOTHING:
                self.assertIsNone(title)
            else:
                self.assertTrue(is_title(title) and is_in(region, title), (region, title))

    def test_title_in_regions_of_one_kind(self):
        for marks in ((((), True),), ((("x",), True),), ((FOUR, True),), FEW_LEFT, ((("x", "y"), True), (("x", "y", "z"), False)),
                      (((), True), (("w0",), False), (("w0", "w0"), True))):
            for at, kind in ((0, "house"), (1, "letter"), (2, "name")):
                title = title_in(marks_in(at, marks))
                self.assertEqual(title[0], kind)
                self.assertTrue(is_in(marks_in(at, marks), title), (at, marks, title))
        for numbers in (((0, 0),), ((65535, 65535),), ((5, 9), (20, 30))):
            self.assertTrue(is_in(marks_in(3, numbers), title_in(marks_in(3, numbers))))

    def test_letters(self):
        for marks in (((("x", "@me"), True),), ((FOUR + ("@me",), True),), ((FOUR, True), (FOUR + ("@me",), False)), FEW_BOXES,
                      ((("x",), True), (("x", "@w0"), False)), (((), True), (("w0", "@w0"), False)),
                      (((), True), (("w0",), False), (("w0", "@w0"), True)), FEW_LEFT):
            title = self.keeps(title_in, marks_in(1, marks))
            self.assertTrue(is_title(title) and is_in(marks_in(1, marks), title), (marks[:5], title))

    def test_apart(self):
        for one in REGIONS:
            for other in REGIONS:
                title = apart_paper(one, other)
                if one == other:
                    self.assertIsNone(title)
                else:
                    self.assertTrue(is_title(title))
                    self.assertNotEqual(is_in(one, title), is_in(other, title), (one, other, title))

    def test_cover(self):
        for one in REGIONS:
            for other in REGIONS:
                title = self.keeps(cover_paper, one, other)
                if less_of(other, one) == NOTHING:
                    self.assertIsNone(title)
                else:
                    self.assertTrue(is_title(title))
                    self.assertEqual((is_in(one, title), is_in(other, title)), (False, True), (one, other, title))

    def test_by_hand(self):
        one, other = region_of((("number", 3, 4),)), region_of((("number", 4, 5),))
        self.assertEqual((cover_paper(one, other), cover_paper(other, one)), (("number", 5), ("number", 3)))
        self.assertIn(apart_paper(one, other), (("number", 3), ("number", 5)))
        self.assertEqual(apart_paper(one, NOTHING)[0], "number")
        self.assertEqual(apart_paper(NOTHING, one)[0], "number")
        self.assertIsNone(cover_paper(join_of(one, other), one))
        self.assertIsNone(cover_paper(NOTHING, NOTHING))
        self.assertIsNone(apart_paper(whole_region(), other_of(NOTHING)))
        self.keeps(apart_paper, one, other)

    def test_errors(self):
        self.checks(title_in, (NOTHING,), [(NO_REGIONS, InvalidRegion)])
        for function in (apart_paper, cover_paper):
            self.checks(function, (NOTHING, NOTHING), [(NO_REGIONS, InvalidRegion), (NO_REGIONS, InvalidRegion)])
