"""Walk states: [27], [30], [76]."""

from chainpapers.constraints import let_by
from chainpapers.errors import InvalidAnchor, InvalidCertificate, InvalidQuestion, InvalidState, InvalidStore
from chainpapers.regions import region_of, whole_region
from chainpapers.walkstates import begun, is_walk_state, titles_of, walk_sealers
from tests.support import Case, odd_values, spoiled
from tests.test_policysteps import NO_STATES as NO_POLICY_STATES
from tests.test_rights import NO_CERTIFICATES
from tests.things import ANCHOR, BARE_QUESTION, EMPTY_STORE, FULL, OPEN_ANCHOR, PLAIN, QUESTION, STORE, names, with_item

START = ((("any", "any"),), (-1, 0, 8))
GOOD = [(("r",), 5, -1, whole_region(), START), (("r", "a"), 2 ** 32 - 1, 8, ((), (), (), ()), ((), (0, 0, 0))),
        (("a", "b", "c", "d"), 0, 0, region_of((("house", ("x",)), ("number", 1, 9))), ((("p", "q"),), (-1, -1, -1)))]
BAD = [GOOD[0][:4], GOOD[0] + (0,), list(GOOD[0])] + [
    with_item(GOOD[0], at, value) for at, values in enumerate((
        [(), ("a",) * 5, ("A",), "r"], [-1, 2 ** 32], [-2, 9], [((), (), ()), (((), False),), ((), (), (), ((3, 1),))], []))
    for value in values] + [with_item(GOOD[0], 4, value) for value in NO_POLICY_STATES]
NO_WALK_STATES = odd_values() + BAD
NO_STORES = odd_values(EMPTY_STORE) + [STORE[:2], list(STORE), (STORE[0][::-1],) + STORE[1:]]
NO_QUESTIONS = odd_values() + [QUESTION[:8], list(QUESTION), with_item(QUESTION, 0, 3), with_item(QUESTION, 5, ())]
SOME_SPOILED = [value for at, value in enumerate(spoiled(GOOD[2])) if at % 2]


class States(Case):
    def test_is_walk_state(self):
        self.takes_just(is_walk_state, GOOD, BAD)
        self.takes_no_spoiled(is_walk_state, GOOD[1:])

    def test_begun(self):
        for at, anchor in enumerate(STORE[2]):
            for settings in (("no", 0, -1, -1, -1), ("must", 5, 0, 3, 8)):
                question = with_item(QUESTION, 6, settings)
                region = let_by(anchor[2], anchor[3])
                self.assertEqual(self.keeps(begun, STORE, question, at), (
                    anchor[0], anchor[1], anchor[4], region, ((("any", "any"),), settings[2:])))
        self.assertEqual(begun(((PLAIN,), (), (OPEN_ANCHOR,)), BARE_QUESTION, 0), (
            ("root",), 5, -1, whole_region(), ((("any", "any"),), (-1, -1, -1))))
        self.assertIs(is_walk_state(begun(((PLAIN,), (), (ANCHOR,)), BARE_QUESTION, 0)), True)

    def test_titles(self):
        self.assertEqual(self.keeps(titles_of, PLAIN), (("name", ("root", "web")),))
        self.assertEqual(titles_of(FULL), (("house", ("a", "b")), ("letter", "me", ("a",)), ("name", ("root", "a1")), ("number", 1)))
        eight = tuple(("number", number) for number in range(8))
        self.assertEqual(titles_of(with_item(PLAIN, 7, (("names", eight),))), (("name", ("root", "web")),) + eight)

    def test_sealers(self):
        self.assertEqual(self.keeps(walk_sealers, STORE, QUESTION, GOOD[0]), (
            (("r",), 5), (("root",), 1), (("root", "a"), 0)))
        state = (("root",), 1) + GOOD[0][2:]
        self.assertEqual(walk_sealers(STORE, QUESTION, state), QUESTION[8])
        self.assertEqual(walk_sealers(STORE, BARE_QUESTION, state), ((("root",), 1),))
        self.assertEqual(walk_sealers(STORE, QUESTION, (("root",), 2) + GOOD[0][2:]), (
            (("root",), 1), (("root",), 2), (("root", "a"), 0)))
        twelve = tuple((name, 0) for name in names(12))
        self.assertEqual(len(walk_sealers(STORE, with_item(QUESTION, 8, twelve), state)), 13)

    def test_errors(self):
        own = [(NO_STORES, InvalidStore), (NO_QUESTIONS, InvalidQuestion)]
        self.checks(begun, (STORE, QUESTION, 0), own + [(odd_values(0, 1) + [-1, 2], InvalidAnchor)])
        self.raises(InvalidAnchor, begun, ((PLAIN,), (), ()), BARE_QUESTION, 0)
        self.checks(titles_of, (PLAIN,), [(NO_CERTIFICATES, InvalidCertificate)])
        self.checks(walk_sealers, (STORE, QUESTION, GOOD[0]), own + [(NO_WALK_STATES + SOME_SPOILED, InvalidState)])
