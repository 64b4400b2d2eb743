"""Steps between stores: [90]."""

import random

from chainpapers.differences import applied, store_steps
from chainpapers.errors import InvalidStore
from chainpapers.stores import is_store
from chainpapers.texterrors import InvalidSteps
from chainpapers.texts import write_anchor, write_certificate, write_list
from tests.support import Case, odd_values
from tests.test_walkstates import NO_STORES
from tests.texts import some_store, told_anchor, told_certificate, told_list
from tests.things import ANCHOR, DELTA, EMPTY_STORE, FULL, OPEN_ANCHOR, PLAIN, SELF, STORE, WHOLE, with_item

TELLING = (told_certificate, told_list, told_anchor)
CERTIFICATES = tuple(with_item(PLAIN, 0, serial) for serial in range(31))
LISTS = tuple(with_item(WHOLE, 2, number) for number in range(13))
ANCHORS = tuple(with_item(OPEN_ANCHOR, 1, key) for key in range(7))
PUT_PLAIN = ("put", write_certificate(PLAIN))
OUT_PLAIN = ("out", write_certificate(PLAIN))


def told_steps(store, other):
    """The document's words: what only the first one has is taken out, then what only the other one has is put in."""
    lost = [("out", tell(thing)) for at, tell in enumerate(TELLING) for thing in store[at] if thing not in other[at]]
    won = [("put", tell(thing)) for at, tell in enumerate(TELLING) for thing in other[at] if thing not in store[at]]
    return tuple(lost + won)


def mixed(source, *stores):
    """A store with some of what some stores have."""
    return tuple(tuple(sorted({thing for store in stores for thing in store[at] if source.random() < 0.5}))[:most]
                 for at, most in enumerate((30, 12, 6)))


class Steps(Case):
    def check_steps(self, store, other):
        steps = self.keeps(store_steps, store, other)
        self.assertEqual(steps, told_steps(store, other))
        self.assertEqual(self.keeps(applied, store, steps), other)
        self.assertEqual(applied(other, store_steps(other, store)), store)
        return steps

    def test_stores_at_random(self):
        many = set()
        for seed in range(20):
            source = random.Random(seed)
            first, second = some_store(source), some_store(source)
            stores = [mixed(source, first, second) for _ in range(3)] + [first, EMPTY_STORE]
            for store in stores:
                for other in stores:
                    steps = self.check_steps(store, other)
                    many |= {step[0] + " " + step[1].partition(" ")[0] for step in steps}
        self.assertEqual(many, {f"{deed} {sort}" for deed in ("put", "out") for sort in ("certificate", "list", "anchor")})

    def test_nothing_alike_and_all_alike(self):
        self.assertEqual(self.check_steps(STORE, STORE), ())
        self.assertEqual(self.check_steps(EMPTY_STORE, EMPTY_STORE), ())
        self.assertEqual([step[0] for step in self.check_steps(STORE, EMPTY_STORE)], ["out"] * 7)
        self.assertEqual([step[0] for step in self.check_steps(EMPTY_STORE, STORE)], ["put"] * 7)
        full = (CERTIFICATES[:30], LISTS[:12], ANCHORS[:6])
        others = (tuple(with_item(one, 8, 1) for one in full[0]), tuple(with_item(one, 8, 1) for one in full[1]),
                  tuple(with_item(one, 4, 1) for one in full[2]))
        self.assertEqual(len(self.check_steps(full, others)), 96)

    def test_each_sort_of_thing(self):
        for at, thing, text in ((0, PLAIN, write_certificate(PLAIN)), (1, DELTA, write_list(DELTA)), (2, ANCHOR, write_anchor(ANCHOR))):
            store = with_item(EMPTY_STORE, at, (thing,))
            self.assertEqual(self.check_steps(EMPTY_STORE, store), (("put", text),))
            self.assertEqual(self.check_steps(store, EMPTY_STORE), (("out", text),))

    def test_one_after_the_other(self):
        store = ((PLAIN,), (), ())
        self.assertEqual(applied(EMPTY_STORE, (PUT_PLAIN, OUT_PLAIN) * 50), EMPTY_STORE)
        self.assertEqual(applied(store, (OUT_PLAIN, PUT_PLAIN, OUT_PLAIN)), EMPTY_STORE)
        found = applied(EMPTY_STORE, (("put", write_certificate(SELF)), PUT_PLAIN, ("put", write_certificate(FULL))))
        self.assertEqual(found, (STORE[0], (), ()))
        self.assertIs(is_store(found), True)
        self.assertEqual(applied(STORE, ()), STORE)

    def test_steps_that_cannot_be_done(self):
        store = ((PLAIN,), (WHOLE,), (ANCHOR,))
        for steps in ((PUT_PLAIN,), (OUT_PLAIN, OUT_PLAIN), (OUT_PLAIN, PUT_PLAIN, PUT_PLAIN), (("out", write_certificate(FULL)),),
                      (("put", write_list(WHOLE)),), (("out", write_list(DELTA)),), (("put", write_anchor(ANCHOR)),),
                      (("out", write_anchor(OPEN_ANCHOR)),), (("put", ""),), (("put", "name"),), (("put", "anchor a 1 [] []"),),
                      (("put", "anchor a 1 [number(2..1)] [] -"),), (("put", "list a 0 1 - 9 0 all no [] [] 0"),),
                      (("put", "certificate 7 a a 0 0 9 0 {} 0"),), (("put", write_anchor(OPEN_ANCHOR) + "\n"),),
                      (("put", " " + write_anchor(OPEN_ANCHOR)),), (("put", "~" * 20000),)):
            self.raises(InvalidSteps, applied, store, steps)

    def test_too_many_things(self):
        for at, things, tell in ((0, CERTIFICATES, told_certificate), (1, LISTS, told_list), (2, ANCHORS, told_anchor)):
            full = with_item(EMPTY_STORE, at, things[:-1])
            nearly = with_item(EMPTY_STORE, at, things[:-2])
            last, ahead = ("put", tell(things[-1])), ("put", tell(things[-2]))
            self.raises(InvalidSteps, applied, full, (last,))
            self.raises(InvalidSteps, applied, nearly, (ahead, last))
            self.assertEqual(applied(nearly, (last,)), with_item(EMPTY_STORE, at, things[:-2] + things[-1:]))
            self.assertEqual(applied(full, (("out", ahead[1]), last)), with_item(EMPTY_STORE, at, things[:-2] + things[-1:]))
            self.raises(InvalidSteps, applied, full, (last, ("out", ahead[1])))

    def test_how_many_steps(self):
        self.assertEqual(applied(EMPTY_STORE, (PUT_PLAIN, OUT_PLAIN) * 50), EMPTY_STORE)
        self.raises(InvalidSteps, applied, EMPTY_STORE, (PUT_PLAIN, OUT_PLAIN) * 50 + (PUT_PLAIN,))

    def test_errors(self):
        self.checks(store_steps, (STORE, EMPTY_STORE), [(NO_STORES, InvalidStore)] * 2)
        text = write_anchor(OPEN_ANCHOR)
        wrong = odd_values(()) + [[("put", text)], (["put", text],), ("put", text), (("put", text, text),), (("put",),), (("in", text),),
                                  ((None, text),), (("put", None),), (("put", [text]),), (("put", ("anchor",)),), (("PUT", text),), (((), text),)]
        self.checks(applied, (EMPTY_STORE, (("put", text),)), [(NO_STORES, InvalidStore), (wrong, InvalidSteps)])
        for deed in ("in", "take out", "Out", "", None, (), True, ["out"]):
            self.raises(InvalidSteps, applied, (EMPTY_STORE[:2] + ((OPEN_ANCHOR,),)), ((deed, text),))
