"""Desks: [91] to [93], and that a desk has what comes of its deeds in force ([3])."""

import random
import time

from chainpapers.desk import Desk, desk_of
from chainpapers.differences import applied
from chainpapers.errors import (
    InvalidAnchor, InvalidCertificate, InvalidList, InvalidName, InvalidNumber, InvalidWord, TooMany)
from chainpapers.sealing import is_sealed_list, sealed_list
from chainpapers.stores import is_list, is_store
from chainpapers.texterrors import BadText, InvalidSteps, InvalidText, IsThere, NothingToRedo, NothingToUndo, NotThere
from chainpapers.texts import read_list, write_anchor, write_certificate, write_list
from chainpapers.wordlists import REASONS
from tests.support import ANY_VALUES, Case, odd_values
from tests.test_candidates import NO_KEYS, NO_NAMES
from tests.test_differences import ANCHORS, CERTIFICATES, LISTS, OUT_PLAIN, PUT_PLAIN
from tests.test_texts import NO_TEXTS
from tests.things import ANCHOR, DELTA, EMPTY_STORE, FULL, OPEN_ANCHOR, PLAIN, STORE, WHOLE, with_item

ROOT, KEY = ("root",), 5
PLAIN_TEXT, FULL_TEXT = write_certificate(PLAIN), write_certificate(FULL)
ANCHOR_TEXT = write_anchor(ANCHOR)
WRITERS = (write_certificate, write_list, write_anchor)
ALL = ("all", False, ())
WITHDRAWAL = (ROOT, KEY, 7, 150, "hold", 100, 200)
GIVEN_BACK = (ROOT, KEY, 7, 160, 300)
NO_TIMES = odd_values(0, 1) + [-1, 10 ** 9 + 1]


def texts_of(store):
    return [write(thing) for write, things in zip(WRITERS, store) for thing in things]


def desk_with(*things):
    """A desk with some certificates, lists and anchors."""
    desk = Desk()
    for thing in things:
        desk.put(WRITERS[2 if len(thing) == 5 else 1 if isinstance(thing[0], tuple) else 0](thing))
    return desk


def whole(number=3, serials=(), since=0, until=9, reason="hold", **changed):
    """A whole list of all reasons, whose entries have these serials."""
    entries = tuple((ROOT, serial, 1, reason) for serial in serials)
    own = {"issuer": ROOT, "sealer": KEY, "number": number, "base": -1, "since": since, "until": until, "scope": ALL,
           "entries": entries, "seal": 0, **changed}
    return tuple(own.values())


class DeskCase(Case):
    def state(self, desk):
        """All that can be told of a desk; what is told is new each time."""
        deeds = desk.deeds()
        self.assertIsNot(deeds, desk.deeds())
        again = desk_of(tuple(deeds))
        self.assertEqual(again.store(), desk.store())
        self.assertIs(is_store(desk.store()), True)
        return desk.store(), deeds

    def refuses(self, desk, error, method, *arguments, **attributes):
        """Check that a call raises an error, and changes nothing, not even what can be done again."""
        before = self.state(desk)
        self.raises(error, method, *arguments, **attributes)
        self.assertEqual(self.state(desk), before)
        try:
            desk.redo()
        except NothingToRedo:
            return None
        self.assertEqual(desk.deeds()[:-1], before[1])
        desk.undo()
        return True


class Deeds(DeskCase):
    def test_a_new_desk(self):
        desk = Desk()
        self.assertEqual(self.state(desk), (EMPTY_STORE, []))
        self.refuses(desk, NothingToUndo, desk.undo)
        self.refuses(desk, NothingToRedo, desk.redo)

    def test_put_and_take_out(self):
        desk = Desk()
        for text in texts_of(STORE)[::-1]:
            self.assertIsNone(desk.put(text))
        self.assertEqual(desk.store(), STORE)
        self.assertEqual(desk.deeds(), [("put", text) for text in texts_of(STORE)[::-1]])
        for text in texts_of(STORE):
            self.assertIsNone(desk.take_out(text))
        self.assertEqual(desk.store(), EMPTY_STORE)
        self.assertEqual(len(desk.deeds()), 14)
        self.assertEqual(desk.deeds()[-1], ("out", texts_of(STORE)[-1]))

    def test_what_was_told_stays_as_it_was(self):
        desk = desk_with(PLAIN)
        store, deeds = desk.store(), desk.deeds()
        deeds.append(("put", "x"))
        other = desk.deeds()
        desk.put(FULL_TEXT)
        desk.undo()
        desk.undo()
        self.assertEqual((store, other), (((PLAIN,), (), ()), [PUT_PLAIN]))
        self.assertEqual(deeds, [PUT_PLAIN, ("put", "x")])
        self.assertEqual((desk.store(), desk.deeds()), (EMPTY_STORE, []))

    def test_two_desks_have_nothing_in_common(self):
        one, other = Desk(), Desk()
        one.put(PLAIN_TEXT)
        self.assertEqual(self.state(other), (EMPTY_STORE, []))

    def test_what_is_there_and_what_is_not(self):
        desk = desk_with(PLAIN, WHOLE, ANCHOR)
        for text in texts_of(desk.store()):
            self.refuses(desk, IsThere, desk.put, text)
        for thing, write in ((FULL, write_certificate), (DELTA, write_list), (OPEN_ANCHOR, write_anchor),
                             (with_item(PLAIN, 8, 1), write_certificate)):
            self.refuses(desk, NotThere, desk.take_out, write(thing))

    def test_texts_that_are_refused(self):
        desk = desk_with(PLAIN)
        for text, place in (("", 0), ("name", 0), ("x", 0), ("a", 1), ("an", 2), ("anchor", 6), ("anchorx", 6), ("ancor", 3), ("cert", 4),
                            ("certificates 7", 11), ("li", 2), ("lists", 4), ("liszt", 3), ("list a", 6), ("question 0", 0), (" anchor", 0),
                            ("Anchor", 0), ("anchor a 07 [] [] -", 10), (PLAIN_TEXT + "\n", len(PLAIN_TEXT)), (PLAIN_TEXT + " ", len(PLAIN_TEXT)),
                            (ANCHOR_TEXT[:-1], len(ANCHOR_TEXT) - 1)):
            for method in (desk.put, desk.take_out):
                self.refuses(desk, BadText, method, text, place=place)
        for text, error in (("certificate 7 a a 0 0 9 0 {} 0", InvalidCertificate), ("list a 0 1 - 9 0 all no [] [] 0", InvalidList),
                            ("anchor a 1 [number(2..1)] [] -", InvalidAnchor)):
            for method in (desk.put, desk.take_out):
                self.refuses(desk, error, method, text)
        for value in NO_TEXTS:
            for method in (desk.put, desk.take_out):
                self.raises(InvalidText, method, value)
        self.assertEqual(self.state(desk), (((PLAIN,), (), ()), [PUT_PLAIN]))

    def test_too_many_things(self):
        for at, things, most in ((0, CERTIFICATES, 30), (1, LISTS, 12), (2, ANCHORS, 6)):
            desk = desk_with(*things[:most])
            self.refuses(desk, TooMany, desk.put, WRITERS[at](things[most]), limit=most)
            self.refuses(desk, IsThere, desk.put, WRITERS[at](things[0]))
            self.refuses(desk, NotThere, desk.take_out, WRITERS[at](things[most]))
            desk.take_out(WRITERS[at](things[0]))
            desk.put(WRITERS[at](things[most]))
            self.assertEqual(desk.store()[at], things[1:most + 1])

    def test_too_many_deeds(self):
        desk = desk_of((PUT_PLAIN, OUT_PLAIN) * 99 + (PUT_PLAIN,))
        desk.put(FULL_TEXT)
        self.assertEqual(len(desk.deeds()), 200)
        self.refuses(desk, TooMany, desk.put, ANCHOR_TEXT, limit=200)
        self.refuses(desk, TooMany, desk.take_out, FULL_TEXT, limit=200)
        self.refuses(desk, TooMany, desk.withdraw, *WITHDRAWAL, limit=200)
        self.refuses(desk, IsThere, desk.put, FULL_TEXT)
        self.refuses(desk, NotThere, desk.take_out, ANCHOR_TEXT)
        self.refuses(desk, NotThere, desk.give_back, *GIVEN_BACK)
        desk.undo()
        self.assertEqual(desk.redo(), ("put", FULL_TEXT))
        self.refuses(desk, TooMany, desk.put, ANCHOR_TEXT, limit=200)
        desk.undo()
        desk.put(ANCHOR_TEXT)
        self.assertEqual(len(desk.deeds()), 200)

    def test_too_many_things_come_ahead_of_too_many_deeds(self):
        for at, things, most in ((0, CERTIFICATES, 30), (2, ANCHORS, 6)):
            steps = tuple(("put", WRITERS[at](thing)) for thing in things[:most])
            turns = (PUT_PLAIN, OUT_PLAIN) if at else (("put", ANCHOR_TEXT), ("out", ANCHOR_TEXT))
            desk = desk_of(steps + turns * ((200 - most) // 2))
            self.assertEqual(len(desk.deeds()), 200)
            self.refuses(desk, TooMany, desk.put, WRITERS[at](things[most]), limit=most)

    def test_undo_and_redo_to_the_end_and_beyond(self):
        texts = texts_of(STORE)
        desk = Desk()
        stores = [desk.store()]
        for text in texts:
            desk.put(text)
            stores.append(desk.store())
        for many in range(len(texts), 0, -1):
            self.assertEqual(desk.undo(), ("put", texts[many - 1]))
            self.assertEqual((desk.store(), len(desk.deeds())), (stores[many - 1], many - 1))
        self.refuses(desk, NothingToUndo, desk.undo)
        for many, text in enumerate(texts, 1):
            self.assertEqual(desk.redo(), ("put", text))
            self.assertEqual(self.state(desk), (stores[many], [("put", one) for one in texts[:many]]))
        self.refuses(desk, NothingToRedo, desk.redo)

    def test_a_new_deed_behind_an_undo(self):
        desk = desk_with(PLAIN, FULL)
        desk.undo()
        desk.put(ANCHOR_TEXT)
        self.refuses(desk, NothingToRedo, desk.redo)
        self.assertEqual(desk.deeds(), [PUT_PLAIN, ("put", ANCHOR_TEXT)])
        desk.undo()
        desk.undo()
        desk.withdraw(*WITHDRAWAL)
        self.refuses(desk, NothingToRedo, desk.redo)

    def test_a_refused_deed_behind_an_undo(self):
        desk = desk_with(PLAIN, FULL)
        desk.undo()
        for error, method, arguments in (
                (IsThere, desk.put, (PLAIN_TEXT,)), (NotThere, desk.take_out, (FULL_TEXT,)), (BadText, desk.put, ("x",)),
                (InvalidText, desk.put, (7,)), (NotThere, desk.give_back, GIVEN_BACK), (InvalidName, desk.withdraw, ((),) + WITHDRAWAL[1:])):
            self.assertIs(self.refuses(desk, error, method, *arguments), True)
        self.assertEqual(desk.redo(), ("put", FULL_TEXT))

    def test_desks_at_random(self):
        """A desk has the store that comes of its deeds in force; what is taken back leaves all as it was."""
        for seed in range(20):
            source = random.Random(seed)
            desk, texts = Desk(), texts_of(STORE)
            past, future = [(desk.store(), [])], []
            for _ in range(120):
                word = source.choice(("put", "out", "undo", "redo", "withdraw", "give"))
                before = (desk.store(), desk.deeds())
                try:
                    if word in ("undo", "redo"):
                        told = (desk.undo if word == "undo" else desk.redo)()
                    elif word in ("put", "out"):
                        (desk.put if word == "put" else desk.take_out)(source.choice(texts))
                    elif word == "withdraw":
                        desk.withdraw(ROOT, KEY, source.randint(0, 5), 9, source.choice(("hold", "key")), 0, 99)
                    else:
                        desk.give_back(ROOT, KEY, source.randint(0, 5), 0, 99)
                except (IsThere, NotThere, NothingToUndo, NothingToRedo, TooMany):
                    self.assertEqual((desk.store(), desk.deeds()), before)
                    self.assertFalse((word == "undo" and len(past) > 1) or (word == "redo" and future))
                    continue
                if word == "undo":
                    self.assertEqual(told, before[1][-1])
                    future.append(past.pop())
                elif word == "redo":
                    past.append(future.pop())
                    self.assertEqual(told, past[-1][1][-1])
                else:
                    past.append((desk.store(), desk.deeds()))
                    future = []
                self.assertEqual((desk.store(), desk.deeds()), past[-1])
            self.assertEqual(self.state(desk), past[-1])
            if len(past) <= 101:
                self.assertEqual(applied(EMPTY_STORE, tuple(desk.deeds())), desk.store())

    def test_200_deeds_within_seconds(self):
        begin = time.process_time()
        desk = Desk()
        for thing in CERTIFICATES[:30] + LISTS[:12] + ANCHORS[:6]:
            desk.put(WRITERS[2 if len(thing) == 5 else 1 if isinstance(thing[0], tuple) else 0](thing))
        first = desk.deeds()[0][1]
        for _ in range(76):
            desk.take_out(first)
            desk.put(first)
        self.assertEqual(len(desk.deeds()), 200)
        self.assertEqual(desk_of(tuple(desk.deeds())).store(), desk.store())
        for _ in range(200):
            desk.undo()
        for _ in range(200):
            desk.redo()
        self.assertLess(time.process_time() - begin, 10)


class Withdrawals(DeskCase):
    def withdraws(self, desk, old, *arguments):
        """Check a withdrawal behind an old list, or behind none; return the new list."""
        issuer, sealer, serial, when, reason, since, until = arguments
        store, deeds = desk.store(), desk.deeds()
        text = desk.withdraw(*arguments)
        number = old[2] + 1 if old else 0
        entries = tuple(sorted((old[7] if old else ()) + ((issuer, serial, when, reason),)))
        own = sealed_list((issuer, sealer, number, -1, since, until, ALL, entries, 0))
        self.assertEqual(text, write_list(own))
        return self.is_put(desk, store, deeds, own)

    def gives_back(self, desk, old, *arguments):
        issuer, sealer, serial, since, until = arguments
        store, deeds = desk.store(), desk.deeds()
        text = desk.give_back(*arguments)
        entries = tuple(entry for entry in old[7] if entry[1] != serial)
        own = sealed_list((issuer, sealer, old[2] + 1, -1, since, until, ALL, entries, 0))
        self.assertEqual(text, write_list(own))
        return self.is_put(desk, store, deeds, own)

    def is_put(self, desk, store, deeds, own):
        """Check that just this list is on the desk now that was not, by one deed."""
        self.assertIs(is_list(own) and is_sealed_list(own), True)
        self.assertEqual(desk.deeds(), deeds + [("put", write_list(own))])
        self.assertEqual(desk.store(), (store[0], tuple(sorted(store[1] + (own,))), store[2]))
        self.state(desk)
        return own

    def test_without_an_old_list(self):
        desk = Desk()
        self.withdraws(desk, None, *WITHDRAWAL)
        desk.undo()
        self.assertEqual(desk.store(), EMPTY_STORE)
        desk.redo()
        self.assertEqual(len(desk.store()[1]), 1)

    def test_one_behind_the_other(self):
        desk, old = Desk(), None
        for serial, reason in zip((7, 3, 10 ** 6, 0), ("hold", "key", "ceased", "hold")):
            old = self.withdraws(desk, old, ROOT, KEY, serial, serial, reason, 0, serial)
        self.assertEqual([entry[1] for entry in old[7]], [0, 3, 7, 10 ** 6])
        old = self.gives_back(desk, old, ROOT, KEY, 7, 0, 0)
        self.refuses(desk, NotThere, desk.give_back, ROOT, KEY, 7, 0, 0)
        self.refuses(desk, NotThere, desk.give_back, ROOT, KEY, 3, 0, 0)
        old = self.gives_back(desk, old, ROOT, KEY, 0, 5, 10 ** 9)
        old = self.withdraws(desk, old, ROOT, KEY, 7, 1, "rights", 0, 0)
        self.assertEqual((old[2], len(desk.store()[1])), (6, 7))

    def test_each_reason(self):
        for reason in REASONS:
            desk = desk_with(whole(3, (1,)))
            old = self.withdraws(desk, whole(3, (1,)), ROOT, KEY, 7, 150, reason, 100, 100)
            if reason == "hold":
                self.gives_back(desk, old, *GIVEN_BACK)
            else:
                self.refuses(desk, NotThere, desk.give_back, *GIVEN_BACK)

    def test_the_old_list_has_the_greatest_number(self):
        desk = desk_with(whole(3, (1,)), whole(12, (2,)), whole(9, (3,)))
        self.withdraws(desk, whole(12, (2,)), *WITHDRAWAL)

    def test_of_several_with_one_number_the_greatest_tuple(self):
        for less, more in (((3, (1,), 0, 5), (3, (1,), 1, 5)), ((3, (1,), 0, 5), (3, (1,), 0, 6)), ((3, (1,)), (3, (2,))),
                           ((3, ()), (3, (1,))), ((3, (1,)), (3, (1, 2)))):
            for things in ((less, more), (more, less)):
                desk = desk_with(*(whole(*one) for one in things))
                self.withdraws(desk, whole(*more), *WITHDRAWAL)
        desk = desk_with(whole(3, (1,), seal=8), whole(3, (1,), seal=9), whole(2, (5,), 9, 9))
        self.withdraws(desk, whole(3, (1,)), *WITHDRAWAL)

    def test_lists_that_do_not_count(self):
        """Lists of other issuers, keys, scopes, and deltas are no old lists, whatever their numbers are."""
        others = [whole(9, (), issuer=("s",)), whole(9, (), issuer=("root", "a")), whole(9, (), sealer=6), whole(9, (), base=0),
                  whole(9, (), base=8), whole(9, (), scope=("heads", False, ())), whole(9, (), scope=("users", False, ())),
                  whole(9, (), scope=("all", True, ())), whole(9, (), scope=("all", False, ("hold",)))]
        for other in others:
            self.withdraws(desk_with(other), None, *WITHDRAWAL)
            desk = desk_with(other, whole(3, (1,)))
            self.withdraws(desk, whole(3, (1,)), *WITHDRAWAL)
            desk = desk_with(with_item(other, 7, ((other[0], 7, 1, "hold"),)))
            self.refuses(desk, NotThere, desk.give_back, *GIVEN_BACK)

    def test_seals_and_times_of_old_lists_are_no_matter(self):
        desk = desk_with(whole(3, (1,), 10 ** 9, 10 ** 9))
        self.withdraws(desk, whole(3, (1,)), ROOT, KEY, 7, 0, "key", 0, 0)

    def test_serials_that_are_there(self):
        desk = desk_with(whole(3, (7,)), whole(2, (8,)))
        self.refuses(desk, IsThere, desk.withdraw, *WITHDRAWAL)
        self.withdraws(desk, whole(3, (7,)), *WITHDRAWAL[:2], 8, *WITHDRAWAL[3:])
        desk = desk_with(whole(3, (7,)))
        self.refuses(desk, NotThere, desk.give_back, ROOT, KEY, 8, 0, 0)
        self.gives_back(desk, whole(3, (7,)), *GIVEN_BACK)
        desk = desk_with(whole(3, (7,), reason="key"))
        self.refuses(desk, NotThere, desk.give_back, *GIVEN_BACK)

    def test_too_many_entries(self):
        full, nearly = whole(3, range(100, 130)), whole(3, range(100, 129))
        desk = desk_with(full)
        self.refuses(desk, TooMany, desk.withdraw, *WITHDRAWAL, limit=30)
        self.refuses(desk, IsThere, desk.withdraw, *WITHDRAWAL[:2], 105, *WITHDRAWAL[3:])
        self.gives_back(desk, full, ROOT, KEY, 105, 0, 0)
        self.withdraws(desk_with(nearly), nearly, *WITHDRAWAL)

    def test_the_greatest_number(self):
        last, ahead = whole(10 ** 6, (1,)), whole(10 ** 6 - 1, (1,))
        desk = desk_with(last)
        self.refuses(desk, TooMany, desk.withdraw, *WITHDRAWAL, limit=10 ** 6)
        self.refuses(desk, TooMany, desk.give_back, ROOT, KEY, 1, 0, 0, limit=10 ** 6)
        self.refuses(desk, IsThere, desk.withdraw, *WITHDRAWAL[:2], 1, *WITHDRAWAL[3:])
        self.refuses(desk, NotThere, desk.give_back, *GIVEN_BACK)
        self.withdraws(desk_with(ahead), ahead, *WITHDRAWAL)
        full = desk_with(whole(10 ** 6, range(100, 130)))
        self.refuses(full, TooMany, full.withdraw, *WITHDRAWAL, limit=30)

    def test_too_many_lists(self):
        lists = [whole(number, (1,)) for number in range(12)]
        desk = desk_with(*lists)
        self.refuses(desk, TooMany, desk.withdraw, *WITHDRAWAL, limit=12)
        self.refuses(desk, TooMany, desk.give_back, ROOT, KEY, 1, 0, 0, limit=12)
        full = desk_with(*lists[:11], whole(10 ** 6, (1,)))
        self.refuses(full, TooMany, full.withdraw, *WITHDRAWAL, limit=10 ** 6)
        self.withdraws(desk_with(*lists[:11]), lists[10], *WITHDRAWAL)

    def test_errors(self):
        desk = desk_with(whole(3, (7, 8)))
        spans = NO_TIMES + [201]
        self.checks_method(lambda: desk_with(whole(3, (9,))).withdraw, WITHDRAWAL, [
            (NO_NAMES, InvalidName), (NO_KEYS, InvalidNumber), (odd_values(0, 1) + [-1, 10 ** 6 + 1], InvalidNumber), (NO_TIMES, InvalidNumber),
            (odd_values() + ["back", "Key", ""], InvalidWord), (spans, InvalidNumber), (odd_values() + [99, -1], InvalidNumber)])
        self.checks_method(lambda: desk_with(whole(3, (7,))).give_back, GIVEN_BACK, [
            (NO_NAMES, InvalidName), (NO_KEYS, InvalidNumber), (odd_values(0, 1) + [-1, 10 ** 6 + 1], InvalidNumber),
            (NO_TIMES + [301], InvalidNumber), (odd_values() + [159, -1], InvalidNumber)])
        self.assertEqual(read_list(desk.withdraw(ROOT, KEY, 0, 0, "key", 7, 7))[4:6], (7, 7))

    def checks_method(self, make, good, wrong):
        """Check a method's errors, each time on a new desk."""
        make()(*good)
        for at, (values, error) in enumerate(wrong):
            for value in values:
                behind = tuple(values[0] for values, _ in wrong[at + 1:])
                self.raises(error, make(), *good[:at], value, *good[at + 1:])
                self.raises(error, make(), *good[:at], value, *behind)


class Made(DeskCase):
    def test_desk_of(self):
        desk = self.keeps_desk(())
        self.assertEqual(self.state(desk), (EMPTY_STORE, []))
        deeds = (PUT_PLAIN, ("put", ANCHOR_TEXT), OUT_PLAIN)
        desk = self.keeps_desk(deeds)
        self.assertEqual(self.state(desk), (((), (), (ANCHOR,)), list(deeds)))
        self.assertEqual([desk.undo(), desk.undo(), desk.undo()], list(deeds)[::-1])
        self.refuses(desk, NothingToUndo, desk.undo)
        self.assertEqual([desk.redo(), desk.redo(), desk.redo()], list(deeds))
        self.refuses(desk, NothingToRedo, desk.redo)

    def keeps_desk(self, deeds):
        one, other = desk_of(deeds), desk_of(deeds)
        one.put(FULL_TEXT)
        self.assertEqual(other.deeds(), list(deeds))
        return other

    def test_200_deeds_and_one_more(self):
        deeds = (PUT_PLAIN, OUT_PLAIN) * 100
        self.assertEqual(desk_of(deeds).deeds(), list(deeds))
        self.raises(InvalidSteps, desk_of, deeds + (PUT_PLAIN,))

    def test_too_many(self):
        for at, things, most in ((0, CERTIFICATES, 30), (1, LISTS, 12), (2, ANCHORS, 6)):
            steps = tuple(("put", WRITERS[at](thing)) for thing in things[:most + 1])
            self.assertEqual(len(desk_of(steps[:most]).store()[at]), most)
            self.raises(TooMany, desk_of, steps, limit=most)
            self.raises(TooMany, desk_of, steps + (("put", "x"),), limit=most)
            self.raises(InvalidSteps, desk_of, steps[:most] + (("put", "x"),) + steps[most:])

    def test_errors(self):
        for deeds in ANY_VALUES:
            if deeds != ():
                self.raises(InvalidSteps, desk_of, deeds)
        for deeds in ([PUT_PLAIN], (PUT_PLAIN, PUT_PLAIN), (OUT_PLAIN,), (PUT_PLAIN, OUT_PLAIN, OUT_PLAIN), (list(PUT_PLAIN),), (PUT_PLAIN + (0,),),
                      (("in", PLAIN_TEXT),), (("put", 7),), (("put", "x"),), (("put", "anchor a 1 [number(2..1)] [] -"),),
                      (("put", "certificate 7 a a 0 0 9 0 {} 0"),), (("out", "list a 0 1 - 9 0 all no [] [] 0"),), (("put", PLAIN_TEXT + " "),)):
            self.raises(InvalidSteps, desk_of, deeds)
