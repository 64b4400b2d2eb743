"""Marks and regions: [12], [55], and what [3] says of them."""

import itertools
import random

from chainpapers.errors import InvalidName, InvalidRegion, InvalidSubtree
from chainpapers.regions import is_in, is_region, join_of, less_of, meet_of, other_of, region_of, whole_region
from tests.support import Case, odd_values
from tests.things import subtrees
from tests.titles import subtrees_of, titles_of, told_holds, told_in

NOTHING = ((), (), (), ())
FOUR = ("a", "b", "c", "d")
BOUNDS = (0, 1, 2, 3, 4, 5, 65533, 65534, 65535)
# The subtrees have the words x and y and the boxes me and you; z and us stand for all others.
TITLES = titles_of(("x", "y", "z"), ("me", "us", "you"), BOUNDS + (6, 7, 30000), 3)
SUBTREES = subtrees_of(("x", "y"), ("", "me", "you"), BOUNDS, 2) + [("house", ("x", "x", "y")), ("letter", "", ("y",) * 3)]
NO_REGIONS = odd_values(NOTHING) + [(), NOTHING[:3], list(NOTHING), ((((), False),), (), (), ())]


def chosen(seed, most=8):
    """An ascending tuple of some subtrees."""
    source = random.Random(seed)
    return tuple(sorted(source.sample(SUBTREES, source.randint(0, most))))


def regions(many):
    """Regions of several sorts, in the plain form."""
    found = [NOTHING, whole_region()]
    for seed in range(many):
        one, other = region_of(chosen(seed)), region_of(chosen(-seed - 1))
        found += [one, less_of(other, one), join_of(one, less_of(other, region_of(chosen(seed, 3)))), other_of(one)]
    return found


REGIONS = regions(14)
HELD = [frozenset(title for title in TITLES if told_in(region, title)) for region in REGIONS]


def marks_in(at, marks):
    return NOTHING[:at] + (marks,) + NOTHING[at + 1:]


class Form(Case):
    def test_marks_of_houses_and_names(self):
        good = [(), (((), True),), ((("x",), True),), (((), True), (("x",), False)), ((FOUR, True),),
                ((("x",), True), (("x", "y"), False), (("x", "y", "z"), True), (("x", "y", "z", "w"), False)),
                ((("x",), True), (("x", "y", "z"), False)), ((("x",), True), (("y",), True)),
                ((("x",), True), (("x", "y"), False), (("x0",), True), (("y",), True)),
                (((), True), (("x", "y"), False), (("x", "z"), False), (("x", "z", "a", "b"), True))]
        bad = [(((), False),), ((("x",), False),), (((), True), (("x",), True)), ((("x",), True), (("x", "y"), True)),
               (((), True), (("x",), False), (("x", "y", "z"), False)), ((("x", "y"), True), (("x",), True)),
               ((("y",), True), (("x",), True)), ((("x",), True), (("x",), True)), ((("x",), True), (("x",), False)),
               ((FOUR + ("e",), True),), ((("",), True),), ((("X",), True),), ((("x",), 1),), ((("x",), True, 0),),
               ((("x",),),), ((["x"], True),), ([("x",), True],), [(("x",), True)], (("x", True),), ((("@x",), True),),
               ((("x", "@me"), True),), (((), True), (("x", "@me"), False))]
        for at in (0, 2):
            self.takes_just(lambda marks: is_region(marks_in(at, marks)), good, bad)
            self.takes_no_spoiled(lambda marks: is_region(marks_in(at, marks)), good)

    def test_marks_of_letters(self):
        good = [(), (((), True),), ((("x",), True),), ((("x", "@me"), True),), ((FOUR + ("@abcdefghijkl",), True),),
                ((("x",), True), (("x", "@me"), False)), ((("x",), True), (("x", "@me"), False), (("x", "y"), False)),
                ((("x",), True), (("x", "y"), False), (("x", "y", "@me"), True)), ((FOUR, True), (FOUR + ("@me",), False)),
                (((), True), (("x", "@me"), False))]
        bad = [((("@me",), True),), ((("x", "@me"), False),), ((("x", "@"), True),), ((("x", "@abcdefghijklm"), True),),
               ((("x", "#me"), True),), ((FOUR + ("me",), True),), ((("x", "@Me"), True),), ((("x", "@@me"), True),), ((("x", "me@"), True),), ((("x", "@me", "y"), True),),
               ((("x", "@me", "@me"), True),), ((FOUR + ("e",), True),), ((FOUR + ("e", "@me"), True),),
               ((("x",), True), (("x", "@me"), True)), ((("x", "y"), True), (("x", "@me"), True)),
               ((("x", "@me"), True), (("x", "@me"), True)), (((), True), (("@me",), False)), (((), False),)]
        self.takes_just(lambda marks: is_region(marks_in(1, marks)), good, bad)
        self.takes_no_spoiled(lambda marks: is_region(marks_in(1, marks)), good)

    def test_numbers(self):
        good = [(), ((0, 0),), ((0, 65535),), ((65535, 65535),), ((0, 3), (5, 9)), ((1, 1), (3, 3), (5, 65535))]
        bad = [((0, 3), (4, 9)), ((0, 3), (3, 9)), ((0, 3), (2, 9)), ((5, 9), (0, 3)), ((3, 2),), ((-1, 2),), ((0, 65536),),
               ((-2, -1),), ((0,),), ((0, 1, 2),), (0, 1), [(0, 1)], ([0, 1],), ((0, 1), (0, 1)), ((0, 1), None)]
        self.takes_just(lambda numbers: is_region(marks_in(3, numbers)), good, bad)
        self.takes_no_spoiled(lambda numbers: is_region(marks_in(3, numbers)), good)

    def test_regions(self):
        self.takes_just(is_region, [NOTHING, whole_region(), ((),) * 4] + REGIONS,
                        [NOTHING[:3], NOTHING + ((),), list(NOTHING), (((), True),) * 4])
        self.takes_no_spoiled(is_region, [whole_region(), join_of(REGIONS[2], REGIONS[3])])

    def test_many_marks(self):
        marks = (((), True),) + tuple(((f"w{at:05d}",), False) for at in range(19999))
        numbers = tuple((3 * at, 3 * at + 1) for at in range(20000))
        region = (marks, marks, marks, numbers)
        self.assertIs(is_region(region), True)
        self.assertIs(is_region((marks + (((marks[-1][0] + ("x",)), False),), (), (), ())), False)
        self.assertEqual(other_of(other_of(region)), region)
        self.assertEqual(len(join_of(region, region_of((("house", ("w00000", "x")),)))[0]), 20001)
        self.assertEqual((is_in(region, ("name", ("w19998", "a"))), is_in(region, ("name", ("w19999",)))), (False, True))


class Titles(Case):
    def test_whole_region(self):
        self.assertEqual(whole_region(), ((((), True),), (((), True),), (((), True),), ((0, 65535),)))
        self.assertTrue(all(is_in(whole_region(), title) for title in TITLES))

    def test_each_title_of_each_region(self):
        for region, held in zip(REGIONS, HELD):
            for title in TITLES:
                self.assertIs(is_in(region, title), title in held, (region, title))

    def test_is_in_by_hand(self):
        region = ((((), True), (("x",), False), (("x", "y"), True)), ((("x",), True), (("x", "@me"), False)), (), ((3, 5),))
        for title, is_one in ((("house", ("x",)), False), (("house", ("x", "y", "z")), True), (("house", ("x", "z")), False),
                              (("house", ("y",)), True), (("letter", "me", ("x",)), False), (("letter", "us", ("x",)), True),
                              (("letter", "me", ("x", "y")), True), (("letter", "me", ("y",)), False),
                              (("name", ("x",)), False), (("number", 2), False), (("number", 3), True),
                              (("number", 5), True), (("number", 6), False)):
            self.assertIs(self.keeps(is_in, region, title), is_one, title)

    def test_region_of_each_subtree(self):
        for subtree in SUBTREES:
            region = self.keeps(region_of, (subtree,))
            self.assertTrue(is_region(region))
            for title in TITLES:
                self.assertIs(is_in(region, title), told_holds(subtree, title), (subtree, title))

    def test_region_of_several(self):
        for seed in range(60):
            held = chosen(seed)
            region = self.keeps(region_of, held)
            self.assertTrue(is_region(region))
            for title in TITLES:
                self.assertIs(told_in(region, title), any(told_holds(one, title) for one in held), (held, title))
        self.assertEqual(region_of(()), NOTHING)
        self.assertEqual(region_of((("letter", "me", ()),)), NOTHING)

    def test_regions_have_the_same_titles_if_and_only_if_they_are_equal(self):
        for one, held in zip(REGIONS, HELD):
            for other, other_held in zip(REGIONS, HELD):
                self.assertEqual(one == other, held == other_held, (one, other))

    def test_regions_made_in_another_way_are_equal(self):
        one = region_of((("number", 0, 9), ("number", 10, 20)))
        self.assertEqual(one, region_of((("number", 0, 15), ("number", 12, 20))))
        self.assertEqual(one, less_of(region_of((("number", 0, 30),)), region_of((("number", 21, 30),))))
        self.assertEqual(region_of((("house", ("x",)), ("house", ("x", "y")))), region_of((("house", ("x",)),)))
        self.assertEqual(region_of((("letter", "", ("x",)), ("letter", "me", ("x",)))), region_of((("letter", "", ("x",)),)))
        self.assertEqual(region_of((("name", ()), ("name", ("x",)))), region_of((("name", ()),)))
        self.assertEqual(join_of(less_of(whole_region(), REGIONS[5]), REGIONS[5]), whole_region())


class Operations(Case):
    def test_meet_join_and_less(self):
        for one, held in zip(REGIONS, HELD):
            for other, other_held in zip(REGIONS, HELD):
                for function, wanted in ((meet_of, held & other_held), (join_of, held | other_held),
                                         (less_of, held - other_held)):
                    region = function(one, other)
                    self.assertEqual({title for title in TITLES if told_in(region, title)}, wanted)
                    if wanted in HELD:
                        self.assertEqual(region, REGIONS[HELD.index(wanted)])
                    else:
                        self.assertTrue(is_region(region), region)

    def test_other(self):
        for region, held in zip(REGIONS, HELD):
            other = self.keeps(other_of, region)
            self.assertTrue(is_region(other))
            self.assertEqual({title for title in TITLES if told_in(other, title)}, set(TITLES) - held)
            self.assertEqual(other_of(other), region)

    def test_laws(self):
        for one, other, third in itertools.product(REGIONS[::5], repeat=3):
            self.assertEqual(meet_of(one, join_of(other, third)), join_of(meet_of(one, other), meet_of(one, third)))
            self.assertEqual(less_of(one, other), meet_of(one, other_of(other)))
            self.assertEqual(other_of(join_of(one, other)), meet_of(other_of(one), other_of(other)))

    def test_arguments_are_kept(self):
        for function in (meet_of, join_of, less_of):
            self.keeps(function, REGIONS[4], REGIONS[7])

    def test_by_hand(self):
        one = region_of((("house", ("x",)), ("letter", "", ("x",)), ("number", 0, 5)))
        other = region_of((("house", ("x", "y")), ("letter", "me", ("x",)), ("number", 2, 9)))
        self.assertEqual(meet_of(one, other), (((("x", "y"), True),), ((("x", "@me"), True),), (), ((2, 5),)))
        self.assertEqual(join_of(one, other), (((("x",), True),), ((("x",), True),), (), ((0, 9),)))
        self.assertEqual(less_of(one, other), (((("x",), True), (("x", "y"), False)), ((("x",), True), (("x", "@me"), False)),
                                               (), ((0, 1),)))
        self.assertEqual(less_of(other, one), ((), (), (), ((6, 9),)))
        self.assertEqual(other_of(NOTHING), whole_region())
        self.assertEqual(other_of(whole_region()), NOTHING)
        self.assertEqual(other_of(other), ((((), True), (("x", "y"), False)), (((), True), (("x", "@me"), False)),
                                           (((), True),), ((0, 1), (10, 65535))))

    def test_errors(self):
        no_subtrees = odd_values(()) + [subtrees(9), subtrees(2)[::-1], subtrees(1) * 2, list(subtrees(2)), (("x",),)]
        no_titles = odd_values() + [("house", ()), ("letter", "", ("a",)), ("number", 65536)]
        self.checks(region_of, ((),), [(no_subtrees, InvalidSubtree)])
        self.checks(is_in, (NOTHING, ("name", ("a",))), [(NO_REGIONS, InvalidRegion), (no_titles, InvalidName)])
        self.checks(other_of, (NOTHING,), [(NO_REGIONS, InvalidRegion)])
        for function in (meet_of, join_of, less_of):
            self.checks(function, (NOTHING, NOTHING), [(NO_REGIONS, InvalidRegion), (NO_REGIONS, InvalidRegion)])
