"""Lists, anchors, stores, questions and settings: [7], [8], [45]."""

from chainpapers.errors import InvalidStore
from chainpapers.stores import is_anchor, is_list, is_question, is_store
from tests.support import Case, odd_values
from tests.things import ANCHOR, BARE_QUESTION, DELTA, EMPTY_STORE, ENTRIES, OPEN_ANCHOR, PLAIN, QUESTION, SELF
from tests.things import STORE, WHOLE, names, subtrees, with_item, words

SIX = ("ceased", "changed", "head", "hold", "key", "replaced")
FOUR = ("a", "b", "c", "d")


def entries(many):
    return tuple((("root",), at, 0, "key") for at in range(many))


def whole(entries_of, scope=("all", False, ())):
    return WHOLE[:6] + (scope, tuple(entries_of), 0)


def delta(entries_of, scope=("all", False, ())):
    return WHOLE[:3] + (2,) + WHOLE[4:6] + (scope, tuple(entries_of), 0)


class Lists(Case):
    def test_good_ones(self):
        good = [WHOLE, DELTA, whole(()), whole(entries(30)), delta(()), delta(entries(30))]
        self.takes_just(is_list, good, [WHOLE[:8], WHOLE + (0,), list(WHOLE), (), PLAIN, whole(entries(31))])
        self.takes_no_spoiled(is_list, [WHOLE, DELTA])

    def test_each_place(self):
        places = [(0, [], [(), ("a",) * 5, ("",), ("b",)]), (1, [0, 2 ** 32 - 1], [-1, 2 ** 32]),
                  (2, [0, 3, 10 ** 6], [-1, 10 ** 6 + 1]), (3, [-1, 0, 2], [-2, 3, 4]),
                  (4, [0, 200], [-1, 201]), (5, [100, 10 ** 9], [99, 10 ** 9 + 1]),
                  (8, [0, 2 ** 32 - 1], [-1, 2 ** 32])]
        for at, good, bad in places:
            for value in good:
                self.assertIs(is_list(with_item(WHOLE, at, value)), True, (at, value))
            for value in bad + [value for value in odd_values(0, 1, -1, 2 ** 32)]:
                self.assertIs(is_list(with_item(WHOLE, at, value)), False, (at, value))
        self.assertIs(is_list(WHOLE[:4] + (7, 7) + WHOLE[6:]), True)

    def test_base_is_below_the_number(self):
        for number, base, is_one in ((0, -1, True), (0, 0, False), (1, 0, True), (1, 1, False), (10 ** 6, 10 ** 6, False),
                                     (10 ** 6, 10 ** 6 - 1, True), (5, -2, False)):
            self.assertIs(is_list(WHOLE[:2] + (number, base) + WHOLE[4:]), is_one, (number, base))

    def test_scopes(self):
        good = [(kinds, others, reasons) for kinds in ("all", "heads", "users") for others in (True, False)
                for reasons in ((), SIX, ("key",), ("hold", "rights"))]
        bad = [("all", False), ("all", False, (), ()), ("none", False, ()), ("any", False, ()), (("all",), False, ()),
               ("all", 0, ()), ("all", 1, ()), ("all", False, SIX + ("rights",)), ("all", False, ("key", "hold")),
               ("all", False, ("key", "key")), ("all", False, ("back",)), ("all", False, "key"), ("all", False, ["key"]),
               ("all", False, ("Key",))]
        self.takes_just(lambda scope: is_list(whole((), scope)), good, bad)

    def test_entries(self):
        good = [(("root",), 0, 0, "ceased"), (("root",), 10 ** 6, 10 ** 9, "rights"), (("root",), 3, 3, "hold")]
        bad = [(("root",), -1, 0, "key"), (("root",), 10 ** 6 + 1, 0, "key"), (("root",), 0, -1, "key"),
               (("root",), 0, 10 ** 9 + 1, "key"), (("root",), 0, 0, "any"), (("root",), 0, 0, "back"),
               (("root",), 0, 0), (("root",), 0, 0, "key", 0), ((), 0, 0, "key"), (("other",), 0, 0, "key")]
        self.takes_just(lambda entry: is_list(whole((entry,))), good, bad)
        self.takes_no_spoiled(lambda entry: is_list(whole((entry,))), good)
        for reason in SIX + ("rights",):
            self.assertIs(is_list(whole([(("root",), 0, 0, reason)])), True)

    def test_entries_ascend_by_issuer_and_serial(self):
        one, other = ENTRIES
        two = (("s",), 0, 0, "key")
        others = ("all", True, ())
        for held, is_one in (((one, other), True), ((other, one), False), ((one, one), False), ((other, two), True),
                             ((two, other), False), ((one, one[:2] + (9, "key")), False),
                             ((one[:2] + (9, "key"), other), True)):
            self.assertIs(is_list(whole(held, others)), is_one, held)

    def test_other_issuers_need_others(self):
        held = [(("s",), 0, 0, "key")]
        self.assertIs(is_list(whole(held)), False)
        self.assertIs(is_list(whole(held, ("all", True, ()))), True)
        self.assertIs(is_list(whole([(("root", "a"), 0, 0, "key")])), False)

    def test_reasons_are_those_of_the_scope(self):
        scope = ("all", False, ("hold", "key"))
        for reason in SIX + ("rights",):
            held = [(("root",), 0, 0, reason)]
            self.assertIs(is_list(whole(held, scope)), reason in scope[2], reason)
            self.assertIs(is_list(delta(held, scope)), reason in scope[2], reason)

    def test_back_stands_in_deltas_alone(self):
        held = [(("root",), 0, 0, "back")]
        for scope in (("all", False, ()), ("all", False, ("key",))):
            self.assertIs(is_list(delta(held, scope)), True)
            self.assertIs(is_list(whole(held, scope)), False)
        self.assertIs(is_list(whole(held)[:3] + (0,) + whole(held)[4:]), True)


class Anchors(Case):
    def test_anchors(self):
        good = [ANCHOR, OPEN_ANCHOR, (FOUR, 0, subtrees(8), subtrees(8), 8), (("a",), 2 ** 32 - 1, (), subtrees(1), 0)]
        self.takes_just(is_anchor, good, [ANCHOR[:4], ANCHOR + (0,), list(ANCHOR)])
        self.takes_no_spoiled(is_anchor, good)

    def test_each_place(self):
        bad_subtrees = [subtrees(9), subtrees(2)[::-1], subtrees(1) * 2, (("x",),), (("house", ()), 1)]
        for at, bad in ((0, [(), ("a",) * 5]), (1, [-1, 2 ** 32]), (2, bad_subtrees), (3, bad_subtrees), (4, [-2, 9])):
            for value in bad + odd_values(0, 1, -1, (), ("a",), ("a", "b"), 2 ** 32):
                self.assertIs(is_anchor(with_item(OPEN_ANCHOR, at, value)), False, (at, value))


class Stores(Case):
    def test_stores(self):
        self.takes_just(is_store, [STORE, EMPTY_STORE, ((), (), (ANCHOR,)), ((), (WHOLE,), ()), ((PLAIN,), (), ()),
                                   ((),) * 3],
                        [STORE[:2], STORE + ((),), list(STORE), (STORE[1], STORE[0], STORE[2]), ((WHOLE,), (), ())])
        self.takes_no_spoiled(is_store, [STORE])

    def test_each_ascends(self):
        for at, things in enumerate(STORE):
            empty = EMPTY_STORE
            self.assertIs(is_store(with_item(empty, at, things)), True)
            self.assertIs(is_store(with_item(empty, at, things[::-1])), False)
            self.assertIs(is_store(with_item(empty, at, things[:1] * 2)), False)
            self.assertIs(is_store(with_item(empty, at, list(things))), False)
            self.assertIs(is_store(with_item(empty, at, things + (None,))), False)

    def test_how_many(self):
        many = [tuple(with_item(PLAIN, 0, at) for at in range(31)),
                tuple(with_item(WHOLE, 8, at) for at in range(13)),
                tuple(with_item(OPEN_ANCHOR, 1, at) for at in range(7))]
        for at, things in enumerate(many):
            self.assertIs(is_store(with_item(EMPTY_STORE, at, things)), False)
            self.assertIs(is_store(with_item(EMPTY_STORE, at, things[:-1])), True)
        self.assertIs(is_store((many[0][:-1], many[1][:-1], many[2][:-1])), True)


class Questions(Case):
    def is_one(self, question):
        return is_question(STORE, question)

    def test_questions(self):
        self.takes_just(self.is_one, [QUESTION, BARE_QUESTION], [QUESTION[:8], QUESTION + (0,), list(QUESTION)])
        self.takes_no_spoiled(self.is_one, [QUESTION, BARE_QUESTION])

    def test_each_place(self):
        sealers = tuple((name, 0) for name in names(13))
        numbers = tuple(("number", at) for at in range(9))
        places = [
            (0, [0, 1, 2], [-1, 3, 30]),
            (1, [0, 1, 10 ** 9], [-1, 10 ** 9 + 1]),
            (2, [(), ("agree", "certs", "lists", "sign"), ("lists",)],
             [("sign", "certs"), ("sign", "sign"), ("call",), ("any",)]),
            (3, [(), ("call", "serve", "sign", "stamp"), ("serve",)],
             [("sign", "call"), ("sign", "sign"), ("any",), ("certs",), ("any", "call")]),
            (4, [(), numbers[:8], (("house", ("a",)),)], [numbers, numbers[1::-1], (("name", ("a",)),), numbers[:1] * 2]),
            (5, [("any",), ("p",), ("any", "p"), words(8)], [(), words(9), ("p", "any"), ("p", "p"), ("P",)]),
            (7, [1, 8], [0, 9, -1]),
            (8, [(), sealers[:12], ((("a",), 1), (("a",), 2))],
             [sealers, sealers[1::-1], sealers[:1] * 2, ((("a",), -1),), ((("a",), 2 ** 32),), ((("a",),),),
              ((("a",), 1, 1),), (((), 1),)]),
        ]
        for at, good, bad in places:
            for value in good:
                self.assertIs(self.is_one(with_item(QUESTION, at, value)), True, (at, value))
            for value in bad + odd_values(0, 1, (), ("a",), ("a", "b"), 2 ** 32):
                self.assertIs(self.is_one(with_item(QUESTION, at, value)), False, (at, str(value)[:99]))

    def test_settings(self):
        good = [(states, grace, -1, 0, 8) for states in ("may", "must", "no") for grace in (0, 1, 10 ** 6)]
        good += [("no", 0, ask, limit, last) for ask in (-1, 8) for limit in (-1, 8) for last in (-1, 8)]
        bad = [("yes", 0, 0, 0, 0), ("no", -1, 0, 0, 0), ("no", 10 ** 6 + 1, 0, 0, 0), ("no", 0, 0, 0), ("no", 0, 0, 0, 0, 0),
               ("no", 0, -2, 0, 0), ("no", 0, 9, 0, 0), ("no", 0, 0, -2, 0), ("no", 0, 0, 9, 0), ("no", 0, 0, 0, -2),
               ("no", 0, 0, 0, 9), (True, 0, 0, 0, 0)]
        self.takes_just(lambda settings: self.is_one(with_item(QUESTION, 6, settings)), good, bad)

    def test_a_store_without_certificates_has_none(self):
        self.assertIs(is_question(EMPTY_STORE, BARE_QUESTION), False)
        self.assertIs(is_question(((SELF,), (), ()), BARE_QUESTION), True)
        self.assertIs(is_question(((SELF,), (), ()), with_item(BARE_QUESTION, 0, 1)), False)

    def test_errors(self):
        self.checks(is_question, (STORE, None), [(odd_values(EMPTY_STORE) + [STORE[:2], list(STORE)], InvalidStore), None])
