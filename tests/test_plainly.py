"""Plain bars: [31], [79], and that a walk is barred by the least of them ([3])."""

import itertools

from chainpapers.errors import InvalidAnchor, InvalidNumber, InvalidPath, InvalidQuestion, InvalidStore
from chainpapers.plainly import plain_bars, reason_word
from chainpapers.walks import walk
from tests.plain import told_plain
from tests.routes import AT_LAST, BAD_TITLE, REASON_WORDS, SPOILERS, Route, rank, reasons_at
from tests.support import Case, odd_values
from tests.test_walks import FIGHTING, SHAPES
from tests.test_walkstates import NO_QUESTIONS, NO_STORES
from tests.worlds import index_paths, worlds

DEPTH = REASON_WORDS.index("depth")
NAME = REASON_WORDS.index("name")
POLICY = REASON_WORDS.index("policy")
POLICIES = REASON_WORDS.index("policies")


class Plain(Case):
    def bars(self, route, reason=None):
        """All plain bars of a route, or just the places of one reason."""
        found = self.keeps(plain_bars, *route.asked())
        if reason is None:
            return found
        return [place for place, number in found if number == REASON_WORDS.index(reason)]

    def test_none(self):
        for many, selfs in SHAPES:
            self.assertEqual(self.bars(Route(many, selfs)), (), (many, selfs))

    def test_each_reason_at_each_place(self):
        for many, selfs in SHAPES:
            for place in range(many):
                for reason in reasons_at(Route(many, selfs), place):
                    route = Route(many, selfs)
                    SPOILERS[reason](route, place)
                    found = self.bars(route)
                    self.assertEqual(found[0], rank(place, reason), (many, selfs))
                    if reason not in ("issuer", "key", "depth"):
                        self.assertEqual(len(found), 1, (many, selfs, place, reason, found))

    def test_two_at_once(self):
        for many, selfs in ((3, ()), (3, (1,))):
            spoils = [(place, reason) for place in range(many) for reason in reasons_at(Route(many, selfs), place)]
            for one, other in itertools.combinations(spoils, 2):
                # A withdrawn certificate is not unknown, too.
                if one[1] != other[1] and {one[1], other[1]} != FIGHTING and {one[1], other[1]} != {"withdrawn", "unknown"}:
                    route = Route(many, selfs)
                    SPOILERS[other[1]](route, other[0])
                    SPOILERS[one[1]](route, one[0])
                    store, question, anchor, path = route.asked()
                    found = plain_bars(store, question, anchor, path)
                    self.assertEqual(found, told_plain(store, question, anchor, path))
                    self.assertEqual(walk(store, question, anchor, path), ("barred", found[0][0], REASON_WORDS[found[0][1]]))
                    if one[1] not in ("issuer", "key") and "depth" not in (one[1], other[1]):
                        self.assertLessEqual({rank(*one), rank(*other)}, set(found))

    def test_all_of_all_places(self):
        seen = set()
        for store, question in worlds(250):
            for anchor, path in index_paths(store, question, 30):
                found = plain_bars(store, question, anchor, path)
                self.assertEqual(found, told_plain(store, question, anchor, path), (store, question, anchor, path))
                told = walk(store, question, anchor, path)
                if found:
                    self.assertEqual(told, ("barred", found[0][0], REASON_WORDS[found[0][1]]))
                else:
                    self.assertEqual(told[0], "let")
                for place, number in found:
                    sort = "last" if place == len(path) - 1 else "first" if place == 0 else "between"
                    seen.add((sort, REASON_WORDS[number]))
        told = {(sort, reason) for sort in ("first", "between") for reason in REASON_WORDS if reason not in AT_LAST}
        told |= {("last", reason) for reason in REASON_WORDS if reason not in ("head", "uses", "depth")}
        self.assertEqual(seen, told)

    def test_depth_at_each_certificate_that_is_too_deep(self):
        route = Route(8)
        route.depth = 2
        self.assertEqual(self.bars(route), tuple((place, DEPTH) for place in (2, 3, 4, 5, 6)))
        route.parts[4]["basic"] = (True, 1)
        self.assertEqual(self.bars(route), tuple((place, DEPTH) for place in (2, 3, 4, 5, 6)))
        route.depth = -1
        self.assertEqual(self.bars(route), ((6, DEPTH),))
        route.parts[4]["basic"] = (True, 2)
        self.assertEqual(self.bars(route), ())
        route = Route(8, (0, 3, 7))
        route.depth = 3
        self.assertEqual(self.bars(route), tuple((place, DEPTH) for place in (5, 6)))
        route.depth = 5
        self.assertEqual(self.bars(route), ())

    def test_a_depth_that_ends_just_there(self):
        """The last certificate and self-issued ones are not counted."""
        for many in range(1, 9):
            for depth in range(9):
                route = Route(many)
                route.depth = depth
                self.assertEqual(self.bars(route), tuple((place, DEPTH) for place in range(depth, many - 1)), (many, depth))
                route = Route(many, range(many))
                route.depth = depth
                self.assertEqual(self.bars(route), ())
        route = Route(2, (1,))
        route.depth = 1
        self.assertEqual(self.bars(route), ())
        route.depth = 0
        self.assertEqual(self.bars(route), ((0, DEPTH),))

    def test_names_against_each_one_ahead(self):
        for many, place in ((4, 3), (4, 2), (2, 1), (1, 0), (4, 0)):
            for ahead in range(-1, many):
                route = Route(many)
                route.excluded = (BAD_TITLE,) if ahead == -1 else ()
                if ahead >= 0:
                    route.parts[ahead]["excluded"] = (BAD_TITLE,)
                route.parts[place]["names"] = (("house", ("a",)), BAD_TITLE)
                self.assertEqual(self.bars(route), ((place, NAME),) * (ahead < place), (many, place, ahead))

    def test_the_subject_is_a_title(self):
        for place in range(3):
            for is_permitted in (True, False):
                route = Route(3)
                route.excluded = ()
                subtree = ("name", ("r", f"n{place}"))
                if is_permitted:
                    others = tuple(("name", ("r", f"n{at}")) for at in range(3) if at != place)
                    route.permitted = others
                else:
                    route.excluded = (subtree,)
                self.assertEqual(self.bars(route), ((place, NAME),))
        route = Route(3, (0,))
        route.excluded = (("name", ("r",)),)
        self.assertEqual(self.bars(route), ((1, NAME), (2, NAME)))
        route = Route(3, (0, 1, 2))
        route.excluded = (("name", ("r",)),)
        self.assertEqual(self.bars(route), ((2, NAME),))

    def test_policy_at_the_first_such_place_only(self):
        for first in range(4):
            route = Route(4)
            route.numbers = (first, -1, -1)
            for place in range(4):
                route.parts[place].pop("policies")
            self.assertEqual(self.bars(route), ((first, POLICY),))

    def test_policies_only_where_there_is_no_such_place(self):
        for ask, told in ((-1, ()), (5, ()), (4, ((3, POLICIES),)), (3, ((3, POLICIES),)), (0, ((3, POLICIES),))):
            route = Route(4)
            route.numbers, route.wanted = (ask, -1, -1), ("w",)
            self.assertEqual(self.bars(route), told, ask)
        for ask, told in ((4, ((3, POLICIES),)), (3, ((3, POLICY),)), (2, ((2, POLICY),)), (5, ())):
            route = Route(4)
            route.numbers, route.wanted = (ask, -1, -1), ("w",)
            route.parts[2].pop("policies")
            self.assertEqual(self.bars(route), told, ask)
        route = Route(4)
        route.wanted, route.parts[3]["policylimits"] = ("w",), (0, -1)
        self.assertEqual(self.bars(route), ((3, POLICIES),))

    def test_any_at_a_self_issued_target(self):
        """It is barred there, if the number any is 0, while it is not at other self-issued certificates."""
        for selfs, number, told in (((1,), 0, ((1, POLICY),)), ((1,), 1, ((1, POLICY),)), ((1,), 2, ()), ((0, 1), 0, ((1, POLICY),)),
                                    ((0,), 0, ((1, POLICY),)), ((0, 1), 1, ()), ((0,), 1, ())):
            route = Route(2, selfs)
            route.numbers = (0, -1, number)
            for place in range(2):
                route.parts[place]["policies"] = ("any",) if place or 0 in selfs else ("any", "p")
            self.assertEqual(self.bars(route), told, (selfs, number))

    def test_who_is_ahead(self):
        """The name and the key of what is just ahead are asked, and these alone."""
        store, question, anchor, path = Route(3).asked()
        one, two, target = path
        self.assertEqual(plain_bars(store, question, anchor, (target,)), ((0, 0), (0, 1)))
        self.assertEqual(plain_bars(store, question, anchor, (two, one, target)), ((0, 0), (0, 1), (1, 0), (1, 1), (2, 0), (2, 1)))
        self.assertEqual(plain_bars(store, question, anchor, (one, one, two, target)), ((1, 0), (1, 1)))

    def test_more_than_one_anchor(self):
        store, question, _, path = Route(2).asked()
        anchors = tuple(sorted((store[2][0], (("r",), 6, (), (), -1), (("s",), 5, (BAD_TITLE,), (), 0))))
        for at, told in ((0, ()), (1, ((0, 1),)), (2, ((0, 0), (0, DEPTH)))):
            self.assertEqual(plain_bars(store[:2] + (anchors,), question, at, path), told)

    def test_reason_words(self):
        self.assertEqual([self.keeps(reason_word, number) for number in range(16)], list(REASON_WORDS))
        self.checks(reason_word, (0,), [(odd_values(0, 1) + [-1, 16], InvalidNumber)])

    def test_errors(self):
        asked = Route(2).asked()
        self.checks(plain_bars, asked, [
            (NO_STORES, InvalidStore), (NO_QUESTIONS, InvalidQuestion), (odd_values(0) + [1, -1], InvalidAnchor),
            (odd_values() + [asked[3][:1], asked[3] * 2, list(asked[3]), asked[3] + (99,)], InvalidPath)])
