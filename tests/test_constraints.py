"""What permitted and excluded subtrees let: [11], [57], and what [3] says of it."""

import random

from chainpapers.constraints import bar_paper, gathered, is_bar_paper, let_by, lets, narrowed
from chainpapers.errors import InvalidConstraints, InvalidName, InvalidRegion, InvalidSubtree
from chainpapers.regions import is_in, is_region, meet_of, whole_region
from tests.support import ANY_VALUES, Case, odd_values, same, spoiled
from tests.test_regions import NOTHING, REGIONS
from tests.things import subtrees
from tests.titles import subtrees_of, titles_of, told_holds, told_lets

BOUNDS = (0, 1, 2, 65534, 65535)
TITLES = titles_of(("x", "y", "z"), ("me", "us"), BOUNDS + (3, 9), 2) + [("house", ("x", "y", "x", "y"))]
SUBTREES = subtrees_of(("x", "y"), ("", "me"), BOUNDS, 2)
FEW = [("house", ("x",)), ("letter", "", ("x",)), ("letter", "me", ("x",)), ("letter", "me", ()), ("name", ("x", "y")),
       ("number", 1, 65534)]

NO_SUBTREES = odd_values(()) + [subtrees(9), subtrees(2)[::-1], subtrees(1) * 2, list(subtrees(2)), (("x",),)]
NO_TITLES = odd_values() + [("house", ()), ("letter", "", ("a",)), ("number", 65536), ("number", True)]
NO_PAIRS = odd_values(()) + [(((), ()),) * 9, ((),), (((), (), ()),), (((),),), (((), None),), ((subtrees(9), ()),),
                             (((), subtrees(9)),), (((), subtrees(2)[::-1]),), [((), ())], ([(), ()],), (([], ()),),
                             ((subtrees(1) * 2, ()),), ((), ())]


def some(source, most):
    held = SUBTREES if source.random() < 0.5 else FEW
    return tuple(sorted(source.sample(held, source.randint(0, min(most, len(held))))))


def pair(seed):
    source = random.Random(seed)
    return (some(source, 8), some(source, 4))


def constraints(seed):
    source = random.Random(seed)
    return tuple((some(source, 5), some(source, 2)) for _ in range(source.randint(0, 8)))


class Letting(Case):
    def test_each_title(self):
        for seed in range(150):
            permitted, excluded = pair(seed)
            region = self.keeps(let_by, permitted, excluded)
            self.assertTrue(is_region(region))
            for title in TITLES:
                is_let = told_lets(permitted, excluded, title)
                self.assertIs(lets(permitted, excluded, title), is_let, (permitted, excluded, title))
                self.assertIs(is_in(region, title), is_let, (permitted, excluded, title))

    def test_by_hand(self):
        whole = whole_region()
        self.assertEqual(let_by((), ()), whole)
        self.assertEqual(let_by((("number", 3, 4),), ()), whole[:3] + (((3, 4),),))
        self.assertEqual(let_by((("letter", "me", ()),), ()), whole[:1] + ((),) + whole[2:])
        self.assertEqual(let_by((), (("letter", "me", ()),)), whole)
        self.assertEqual(let_by((), (("number", 3, 4),)), whole[:3] + (((0, 2), (5, 65535)),))
        self.assertEqual(let_by((("house", ("x",)),), (("house", ()), ("name", ("x",)))),
                         ((), whole[1], (((), True), (("x",), False)), whole[3]))
        for permitted, excluded, title, is_let in (
                ((), (), ("house", ("x",)), True), ((("name", ("y",)),), (), ("house", ("x",)), True),
                ((("house", ("y",)),), (), ("house", ("x",)), False), ((("house", ("x",)),), (), ("house", ("x", "z")), True),
                ((("house", ("x",)),), (("house", ("x", "z")),), ("house", ("x", "z")), False),
                ((("house", ("x", "z")),), (("house", ("x",)),), ("house", ("x", "z")), False),
                ((("house", ("x",)), ("house", ("y",))), (), ("house", ("y",)), True),
                ((("letter", "me", ()),), (), ("letter", "us", ("x",)), False),
                ((("letter", "me", ()),), (), ("number", 1), True)):
            self.assertIs(self.keeps(lets, permitted, excluded, title), is_let)

    def test_narrowed(self):
        for seed, region in enumerate(REGIONS):
            permitted, excluded = pair(seed)
            found = self.keeps(narrowed, region, permitted, excluded)
            self.assertEqual(found, meet_of(region, let_by(permitted, excluded)))
            for title in TITLES:
                self.assertEqual(is_in(found, title), is_in(region, title) and told_lets(permitted, excluded, title))
        self.assertEqual(narrowed(NOTHING, (), ()), NOTHING)

    def test_gathered(self):
        for seed in range(60):
            pairs = constraints(seed)
            region = self.keeps(gathered, pairs)
            self.assertTrue(is_region(region))
            for title in TITLES:
                self.assertIs(is_in(region, title), all(told_lets(*one, title) for one in pairs), (pairs, title))
        self.assertEqual(gathered(()), whole_region())
        self.assertEqual(gathered((((), ()),) * 8), whole_region())


def told_papers(pairs, title):
    """All results that the document lets bar_paper return."""
    found = []
    for at, (permitted, excluded) in enumerate(pairs):
        own = [subtree for subtree in permitted if subtree[0] == title[0]]
        if own and not any(told_holds(subtree, title) for subtree in own):
            found.append(("outside", at))
        found += [("inside", at, place) for place, subtree in enumerate(excluded) if told_holds(subtree, title)]
    return found or [None]


class Papers(Case):
    def test_each_paper(self):
        seen = set()
        for seed in range(40):
            pairs = constraints(seed)
            possible = [None] + [("outside", at) for at in range(-1, 9)]
            possible += [("inside", at, place) for at in range(-1, 9) for place in range(-1, 3)]
            for title in TITLES[::3]:
                papers = told_papers(pairs, title)
                self.assertIn(bar_paper(pairs, title), papers)
                seen.add((bar_paper(pairs, title) or ("let",))[0])
                for value in possible:
                    self.assertIs(is_bar_paper(pairs, title, value), value in papers, (pairs, title, value))
        self.assertEqual(seen, {"let", "outside", "inside"})

    def test_values_that_are_no_papers(self):
        pairs = ((subtrees(1), subtrees(2)),) * 3
        title = ("house", ("w01",))
        for paper in (("outside", 0), ("outside", 1), ("outside", 2), ("inside", 0, 1), ("inside", 1, 1)):
            self.assertIs(self.keeps(is_bar_paper, pairs, title, paper), True)
            bad = [list(paper), paper + (0,), paper[:1], (paper[0].upper(),) + paper[1:], paper[1:], ("inside",) + paper[1:2]]
            for value in bad + list(spoiled(paper)):
                self.assertIs(is_bar_paper(pairs, title, value), False, value)
        for value in (("outside", 3), ("outside", -1), ("inside", 3, 1), ("inside", 0, 2), ("inside", 0, 0), ("inside", 0, -1),
                      ("outside", 0, 1), ("inside", 1), ("other", 0), ("other", 0, 1), ("inside", True, 1)):
            self.assertIs(is_bar_paper(pairs, title, value), False, value)

    def test_any_values(self):
        for pairs, title in (((), ("number", 1)), ((((), subtrees(1)),), ("house", ("w00",)))):
            for value in ANY_VALUES:
                self.assertIs(is_bar_paper(pairs, title, value), same(value, bar_paper(pairs, title)))

    def test_arguments_are_kept(self):
        self.keeps(bar_paper, constraints(5), TITLES[3])

    def test_errors(self):
        title = ("name", ("a",))
        two = [(NO_SUBTREES, InvalidSubtree), (NO_SUBTREES, InvalidSubtree)]
        self.checks(let_by, ((), ()), two)
        self.checks(lets, ((), (), title), two + [(NO_TITLES, InvalidName)])
        self.checks(narrowed, (NOTHING, (), ()), [(odd_values(NOTHING) + [NOTHING[:3]], InvalidRegion)] + two)
        self.checks(gathered, ((),), [(NO_PAIRS, InvalidConstraints)])
        for function, rest in ((bar_paper, ()), (is_bar_paper, (None,))):
            self.checks(function, ((), title) + rest,
                        [(NO_PAIRS, InvalidConstraints), (NO_TITLES, InvalidName)] + [None] * len(rest))
        self.raises(InvalidConstraints, gathered, ((), ()))
