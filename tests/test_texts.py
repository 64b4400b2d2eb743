"""Texts: [37] to [39], [88], [89], and that each thing has one text ([3])."""

import random
import time

from chainpapers.certificates import is_certificate
from chainpapers.errors import InvalidAnchor, InvalidCertificate, InvalidList, InvalidName, InvalidQuestion, InvalidStore, InvalidSubtree
from chainpapers.stores import is_anchor, is_list, is_question, is_store
from chainpapers.texterrors import BadText, InvalidSort, InvalidText
from chainpapers.texts import (
    first_refused, read_anchor, read_certificate, read_list, read_name, read_other, read_question, read_store, read_subtree,
    write_anchor, write_certificate, write_list, write_name, write_other, write_question, write_store, write_subtree)
from tests.grammar import FORMS, told_refused
from tests.support import Case, odd_values, same
from tests.test_rights import NO_CERTIFICATES
from tests.test_walkstates import NO_QUESTIONS, NO_STORES
from tests.texts import some_store, spoiled_texts, things, told_store
from tests.things import ANCHOR, BARE_QUESTION, DELTA, EMPTY_STORE, FULL, PLAIN, QUESTION, SELF, STORE, WHOLE, names, with_item

READ = {"name": read_name, "other": read_other, "subtree": read_subtree, "certificate": read_certificate, "list": read_list,
        "anchor": read_anchor, "store": read_store}
WRITE = {"name": write_name, "other": write_other, "subtree": write_subtree, "certificate": write_certificate, "list": write_list,
         "anchor": write_anchor, "store": write_store}
STORE_OF_30 = (tuple(with_item(PLAIN, 0, serial) for serial in range(30)), (), ())
NO_TEXTS = odd_values("", "a", "any", "A", "a b", "\n", "~" * 20000) + ["a" * 20001]
CERTIFICATE_TEXT = "certificate 7 root root/web 11 5 100 200 {basic(yes,0)} 9"
LIST_TEXT = "list root 5 3 - 100 200 all no [] [root:7:150:key] 0"
ANCHOR_TEXT = "anchor root 5 [] [] -"
QUESTION_TEXT = "question 0 0 [] [] [] [p] no 0 - - - 1 []"
TEXTS = {"name": "root/web", "other": "house(a)", "subtree": "name()", "certificate": CERTIFICATE_TEXT, "list": LIST_TEXT,
         "anchor": ANCHOR_TEXT, "question": QUESTION_TEXT, "store": CERTIFICATE_TEXT + "\n" + ANCHOR_TEXT + "\n"}


class Texts(Case):
    def refuses(self, sort, text, place):
        """Check that a text of a sort is refused at a place, or, for None, that it can be read."""
        self.assertEqual(first_refused(sort, text), place, (sort, text))
        self.assertEqual(told_refused(sort, text), place, (sort, text))
        if place is not None:
            if sort == "question":
                self.raises(BadText, read_question, STORE, text, place=place)
            else:
                self.raises(BadText, READ[sort], text, place=place)

    def reads(self, sort, text, error=None):
        """Check that a text can be read, and is then refused as no such thing, if an error is told."""
        self.refuses(sort, text, None)
        if error is None:
            thing = READ[sort](text)
            self.assertEqual(WRITE[sort](thing), text)
            return thing
        if sort == "question":
            return self.raises(error, read_question, STORE, text)
        return self.raises(error, READ[sort], text)


class Written(Texts):
    def test_things(self):
        for sort, thing, text in things(150):
            if sort == "question":
                self.assertIs(is_question(STORE_OF_30, thing), True)
                self.assertEqual(self.keeps(write_question, STORE_OF_30, thing), text)
                self.assertTrue(same(self.keeps(read_question, STORE_OF_30, text), thing))
            else:
                self.assertEqual(self.keeps(WRITE[sort], thing), text)
                self.assertTrue(same(self.keeps(READ[sort], text), thing), text)
            self.assertIsNone(first_refused(sort, text))

    def test_stores(self):
        for seed in range(25):
            store = some_store(random.Random(seed))
            text = told_store(store)
            self.assertEqual(write_store(store), text)
            if len(text) <= 20000:
                self.assertTrue(same(read_store(text), store))
            else:
                self.raises(InvalidText, read_store, text)
        for store in (STORE, EMPTY_STORE):
            self.assertTrue(same(self.keeps(read_store, self.keeps(write_store, store)), store))

    def test_by_hand(self):
        for sort, thing, text in (
                ("name", ("a",), "a"), ("name", ("a", "b", "c", "d"), "a/b/c/d"),
                ("other", ("house", ("a", "b")), "house(a/b)"), ("other", ("letter", "me", ("a",)), "letter(me@a)"),
                ("other", ("number", 65535), "number(65535)"),
                ("subtree", ("house", ()), "house()"), ("subtree", ("name", ("a",)), "name(a)"), ("subtree", ("letter", "", ()), "letter(@)"),
                ("subtree", ("letter", "me", ()), "letter(me@)"), ("subtree", ("letter", "", ("a",)), "letter(@a)"),
                ("subtree", ("number", 0, 10), "number(0..10)"),
                ("list", WHOLE, "list root 5 3 - 100 200 all no [] [root:1:0:hold,root:7:150:key] 0"),
                ("list", DELTA, "list root 0 5 2 1 1 heads yes [hold,key] [b:1:1:back,root:0:1:key] 1"),
                ("anchor", ANCHOR, "anchor root 5 [house(x),number(0..1)] [name(root/b)] 1"),
                ("certificate", SELF, "certificate 0 root root 5 5 0 1000000000 {basic(yes,-)} 4294967295"),
                ("certificate", FULL, "certificate 1 root root/a1 1 0 0 1 {anylimit(3) basic(yes,2) "
                 "excluded[house(x),letter(@),name(),number(1..9)] lists[root,root/lists] mappings[p>q,p>r] "
                 "names[house(a/b),letter(me@a),number(1)] odd(yes,word) permitted[house(),letter(me@x)] policies[any,p] "
                 "policylimits(1,-) purposes[any,sign] uses[agree,certs,lists,sign]} 1")):
            self.assertEqual(WRITE[sort](thing), text)
            self.assertTrue(same(READ[sort](text), thing))
        self.assertEqual(write_question(STORE, BARE_QUESTION), QUESTION_TEXT)
        self.assertEqual(write_question(STORE, QUESTION), "question 1 150 [certs,sign] [call,stamp] [house(a),number(1)] [any,p] "
                         "must 1 0 - 8 8 [root:1,root/a:0]")
        self.assertEqual(write_store(((PLAIN,), (), (ANCHOR,))), write_certificate(PLAIN) + "\n" + write_anchor(ANCHOR) + "\n")

    def test_errors_of_writing(self):
        for function, good, wrong, error in (
                (write_name, ("a",), odd_values(("a",), ("a", "b")) + [("a",) * 5, ("A",)], InvalidName),
                (write_other, ("number", 7), odd_values() + [("name", ("a",)), ("letter", "", ("a",)), ("number", 65536)], InvalidName),
                (write_subtree, ("number", 1, 2), odd_values() + [("number", 2, 1), ("number", 7), ("mail", ())], InvalidSubtree),
                (write_certificate, PLAIN, NO_CERTIFICATES, InvalidCertificate),
                (write_list, WHOLE, odd_values() + [WHOLE[:8], with_item(WHOLE, 2, -1)], InvalidList),
                (write_anchor, ANCHOR, odd_values() + [ANCHOR[:4], with_item(ANCHOR, 4, 9)], InvalidAnchor),
                (write_store, STORE, NO_STORES, InvalidStore)):
            self.checks(function, (good,), [(wrong, error)])
        self.checks(write_question, (STORE, QUESTION), [(NO_STORES, InvalidStore), (NO_QUESTIONS, InvalidQuestion)])

    def test_errors_of_reading(self):
        for sort, function in READ.items():
            self.checks(function, (TEXTS[sort],), [(NO_TEXTS, InvalidText)])
        self.checks(read_question, (STORE, QUESTION_TEXT), [(NO_STORES, InvalidStore), (NO_TEXTS, InvalidText)])
        self.raises(BadText, read_question, STORE, "", place=0)
        for sort in FORMS:
            self.checks(first_refused, (sort, TEXTS[sort]), [
                (odd_values() + ["names", "", "Name", "store ", ["name"]], InvalidSort), (NO_TEXTS, InvalidText)])


class Refused(Texts):
    def test_cut_at_every_place(self):
        """A beginning is refused at its length, unless it is a name, or ends in a seal that is cut, or is some lines of a store."""
        for sort, _, text in things(3, "cut"):
            for at in range(len(text)):
                is_name = sort == "name" and at > 0 and text[at - 1] != "/"
                is_sealed = sort in ("certificate", "list") and at > text.rindex(" ") + 1
                self.refuses(sort, text[:at], None if is_name or is_sealed else at)
        store = write_store(STORE)
        for at in range(len(store)):
            self.refuses("store", store[:at], None if at == 0 or store[at - 1] == "\n" else at)

    def test_spoiled_anywhere(self):
        for sort, thing, text in things(60, "spoiled"):
            source = random.Random(text)
            for other in spoiled_texts(source, text, 12):
                self.assertEqual(first_refused(sort, other), told_refused(sort, other), (sort, other))

    def test_spoiled_at_every_place(self):
        """One sign changed, left out and put in, at each place of a text of each sort."""
        longer = {"other": "letter(me@a/b)", "subtree": "number(7..19)", "certificate": "certificate 7 a a/b 10 5 0 9 {basic(yes,0) uses[sign,certs]} 9",
                  "list": "list a 5 3 2 10 20 all no [key] [a:7:1:back,b/c:7:1:hold] 0", "anchor": "anchor r 5 [house(a),letter(@b)] [] -",
                  "question": "question 2 10 [sign] [call] [number(1)] [any,p] may 0 - 8 - 8 [a:1]"}
        for sort, text in {**TEXTS, **longer}.items():
            for at in range(len(text) + 1):
                for other in [text[:at] + text[at + 1:]] + [
                        text[:at] + put + text[end:] for put in "a0 /],.-\n" for end in (at, at + 1)]:
                    self.assertEqual(first_refused(sort, other), told_refused(sort, other), (sort, other))

    def test_spoiled_stores(self):
        for seed in range(6):
            source = random.Random(seed)
            text = write_store(some_store(source))[:4000]
            for other in [text] + list(spoiled_texts(source, text, 12)):
                self.assertEqual(first_refused("store", other), told_refused("store", other), other)

    def test_what_is_read_is_written_again(self):
        """A text that can be read tells a thing with this text, or no such thing."""
        told = {True: 0, False: 0}
        for sort, thing, text in things(60, "again"):
            for other in spoiled_texts(random.Random(text), text, 12):
                if sort != "question" and first_refused(sort, other) is None:
                    try:
                        found = READ[sort](other)
                    except (InvalidCertificate, InvalidList, InvalidAnchor, InvalidSubtree):
                        told[False] += 1
                    else:
                        told[True] += 1
                        self.assertEqual(WRITE[sort](found), other)
                        self.assertIs({"certificate": is_certificate, "list": is_list, "anchor": is_anchor}.get(sort, bool)(found), True)
        self.assertGreater(min(told.values()), 30)

    def test_numbers_at_their_bounds(self):
        head, tail = "certificate 7 root root 11 5 ", " 200 {} 9"
        for text, place in (("0", None), ("200", None), ("1000000000", None), ("1000000001", 38), ("10000000000", 39), ("00", 30), ("01", 30),
                            ("-", 29), ("-1", 29), ("", 29), ("2000000000", 38), ("999999999", None), ("9999999990", 38)):
            self.refuses("certificate", head + text + tail, place)
        for text, place in (("0", None), ("65535", None), ("65536", 11), ("70000", 11), ("655350", 12), ("00", 8), ("", 7), ("-1", 7)):
            self.refuses("other", f"number({text})", place)
        for text, place in (("29", None), ("30", 10), ("9", None), ("290", 11), ("3", None), ("03", 10)):
            self.refuses("question", QUESTION_TEXT.replace("question 0", f"question {text}"), place)
        for text, place in (("1", None), ("8", None), ("0", 37), ("9", 37), ("-", 37), ("10", 38), ("18", 38)):
            self.refuses("question", QUESTION_TEXT.replace(" 1 []", f" {text} []"), place)
        for text, place in (("4294967295", None), ("4294967296", 21), ("5000000000", 21), ("42949672950", 22)):
            self.refuses("anchor", f"anchor root {text} [] [] -", place)
        for at, place in ((0, None), (8, None), (9, 20), ("-", None), ("", 20), ("--", 21), ("-1", 21), (10, 21), (80, 21)):
            self.refuses("anchor", f"anchor root 5 [] [] {at}", place)
        for text, place in (("1000000", None), ("1000001", 18), ("9999999", 18), ("10000000", 19)):
            self.refuses("certificate", f"certificate {text} a a 0 0 0 0 {{}} 0", place)

    def test_each_number_at_its_bounds(self):
        """Each number of each sort of texts: the greatest one is read, one more is refused at its last figure."""
        for sort, text, most in (
                ("certificate", "certificate {} a a 0 0 0 0 {{}} 0", 10 ** 6), ("certificate", "certificate 0 a a {} 0 0 0 {{}} 0", 2 ** 32 - 1),
                ("certificate", "certificate 0 a a 0 {} 0 0 {{}} 0", 2 ** 32 - 1), ("certificate", "certificate 0 a a 0 0 {} 0 {{}} 0", 10 ** 9),
                ("certificate", "certificate 0 a a 0 0 0 {} {{}} 0", 10 ** 9), ("certificate", "certificate 0 a a 0 0 0 0 {{}} {}", 2 ** 32 - 1),
                ("certificate", "certificate 0 a a 0 0 0 0 {{anylimit({})}} 0", 8), ("certificate", "certificate 0 a a 0 0 0 0 {{basic(yes,{})}} 0", 8),
                ("certificate", "certificate 0 a a 0 0 0 0 {{policylimits({},0)}} 0", 8),
                ("certificate", "certificate 0 a a 0 0 0 0 {{policylimits(0,{})}} 0", 8),
                ("certificate", "certificate 0 a a 0 0 0 0 {{names[number({})]}} 0", 65535),
                ("list", "list a {} 1 - 0 0 all no [] [] 0", 2 ** 32 - 1), ("list", "list a 0 {} - 0 0 all no [] [] 0", 10 ** 6),
                ("list", "list a 0 1 {} 0 0 all no [] [] 0", 10 ** 6), ("list", "list a 0 1 - {} 0 all no [] [] 0", 10 ** 9),
                ("list", "list a 0 1 - 0 {} all no [] [] 0", 10 ** 9), ("list", "list a 0 1 - 0 0 all no [] [a:{}:0:key] 0", 10 ** 6),
                ("list", "list a 0 1 - 0 0 all no [] [a:0:{}:key] 0", 10 ** 9), ("list", "list a 0 1 - 0 0 all no [] [] {}", 2 ** 32 - 1),
                ("anchor", "anchor a {} [] [] -", 2 ** 32 - 1), ("anchor", "anchor a 0 [number({}..0)] [] -", 65535),
                ("anchor", "anchor a 0 [] [number(0..{})] -", 65535), ("anchor", "anchor a 0 [] [] {}", 8),
                ("question", "question {} 0 [] [] [] [p] no 0 - - - 1 []", 29), ("question", "question 0 {} [] [] [] [p] no 0 - - - 1 []", 10 ** 9),
                ("question", "question 0 0 [] [] [] [p] no {} - - - 1 []", 10 ** 6), ("question", "question 0 0 [] [] [] [p] no 0 {} - - 1 []", 8),
                ("question", "question 0 0 [] [] [] [p] no 0 - {} - 1 []", 8), ("question", "question 0 0 [] [] [] [p] no 0 - - {} 1 []", 8),
                ("question", "question 0 0 [] [] [] [p] no 0 - - - {} []", 8), ("question", "question 0 0 [] [] [] [p] no 0 - - - 1 [a:{}]", 2 ** 32 - 1)):
            at = text.format("#").index("#")
            self.refuses(sort, text.format(most), None)
            self.refuses(sort, text.format(most - 1), None)
            self.refuses(sort, text.format(most + 1), at + len(str(most)) - 1)
            self.refuses(sort, text.format(10 * most), at + len(str(most)))
            self.refuses(sort, text.format("01"), at if "- - - {} []" in text else at + 1)
            self.refuses(sort, text.format("-1"), at + 1 if first_refused(sort, text.format("-")) is None else at)
            self.refuses(sort, text.format(""), at)

    def test_where_none_may_stand(self):
        for text, place in (("list a 0 1 - 0 0 all no [] [] 0", None), ("list a 0 - - 0 0 all no [] [] 0", 9),
                            ("list a - 1 - 0 0 all no [] [] 0", 7), ("list a 0 1 - - 0 all no [] [] 0", 13),
                            ("list a 0 1 -1 0 0 all no [] [] 0", 12), ("list a 0 1 1000001 0 0 all no [] [] 0", 17)):
            self.refuses("list", text, place)
        head = "certificate 0 a a 0 0 0 0 {"
        for text, place in (("basic(yes,-)", None), ("basic(no,-)", None), ("basic(no,8)", None), ("basic(yes,9)", 10), ("anylimit(-)", 9),
                            ("anylimit(9)", 9), ("anylimit(8)", None), ("policylimits(-,-)", None), ("policylimits(8,9)", 15),
                            ("policylimits(,8)", 13), ("basic(maybe,0)", 6), ("odd(yes,)", 8), ("odd(no,any)", None), ("basic(y,-)", 7)):
            self.refuses("certificate", head + text + "} 0", None if place is None else len(head) + place)

    def test_words(self):
        for many, place in ((1, None), (12, None), (13, 12), (14, 12)):
            self.refuses("name", "a" * many, place)
            self.refuses("other", "letter(" + "b" * many + "@a)", None if place is None else place + 7)
        for text, place in (("a/b/c/d", None), ("a/b/c/d/e", 7), ("a/", 2), ("/a", 0), ("", 0), ("a//b", 2), ("A", 0), ("a b", 1),
                            ("any", None), ("a-b", 1), ("a\n", 1)):
            self.refuses("name", text, place)

    def test_empty_boxes_and_words(self):
        for text, place in (("letter(@)", None), ("letter(@a)", None), ("letter(a@)", None), ("letter()", 7), ("house()", None), ("name()", None),
                            ("house(/)", 6), ("number()", 7), ("number(1)", 8), ("number(1.2)", 9), ("number(1..2)", None), ("number(2..1)", None),
                            ("number(1..)", 10), ("mail()", 0), ("nume", 3), ("num", 3), ("na", 2), ("n", 1), ("", 0), ("house", 5), ("house(a", 7),
                            ("house(a))", 8)):
            self.refuses("subtree", text, place)
        for text, place in (("letter(@a)", 7), ("letter(a@)", 9), ("house()", 6), ("name(a)", 1), ("number(1..2)", 8)):
            self.refuses("other", text, place)

    def test_how_many_there_may_be(self):
        """None, the most, and one more; where one is asked for, none is refused."""
        eight, nine = (",".join(f"p{at}" for at in range(many)) for many in (8, 9))
        subtrees = [",".join(f"name(p{at})" for at in range(many)) for many in (8, 9)]
        head = "certificate 7 root root 11 5 100 200 {"
        for word, none, most, more in (
                ("policies", False, eight, nine), ("uses", True, ",".join(["sign"] * 8), ",".join(["sign"] * 9)),
                ("purposes", True, ",".join(["any"] * 8), ",".join(["any"] * 9)), ("lists", False, "a,b,c,d", "a,b,c,d,e"),
                ("mappings", False, ",".join(["a>b"] * 8), ",".join(["a>b"] * 9)), ("permitted", False, *subtrees),
                ("excluded", False, *subtrees), ("names", False, ",".join(["number(1)"] * 8), ",".join(["number(1)"] * 9))):
            at = len(head) + len(word) + 1
            self.refuses("certificate", f"{head}{word}[]}} 9", None if none else at)
            self.refuses("certificate", f"{head}{word}[{most}]}} 9", None)
            self.refuses("certificate", f"{head}{word}[{more}]}} 9", at + len(most))
        parts = ["odd(no,a)"] * 13
        self.refuses("certificate", head + " ".join(parts[:12]) + "} 9", None)
        self.refuses("certificate", head + " ".join(parts) + "} 9", len(head) + len(" ".join(parts[:12])))
        self.refuses("anchor", f"anchor a 1 [{subtrees[0]}] [] -", None)
        self.refuses("anchor", f"anchor a 1 [{subtrees[1]}] [] -", 12 + len(subtrees[0]))
        self.refuses("anchor", f"anchor a 1 [] [{subtrees[1]}] -", 15 + len(subtrees[0]))

    def test_how_many_in_lists_and_questions(self):
        entries = [",".join([f"a:{at}:0:key" for at in range(many)]) for many in (30, 31)]
        reasons = [",".join(["key"] * many) for many in (6, 7)]
        head = "list a 1 1 - 0 0 all no ["
        self.refuses("list", f"{head}{reasons[0]}] [{entries[0]}] 0", None)
        self.refuses("list", f"{head}{reasons[1]}] [] 0", len(head) + len(reasons[0]))
        self.refuses("list", f"{head}] [{entries[1]}] 0", len(head) + 3 + len(entries[0]))
        sealers = [",".join([f"a:{at}" for at in range(many)]) for many in (12, 13)]
        uses = [",".join(["sign"] * many) for many in (4, 5)]
        others = [",".join(["number(1)"] * many) for many in (8, 9)]
        wanted = [",".join(["any"] * many) for many in (8, 9)]
        for old, new, places in (("1 []", "1 [{}]", (sealers, 40)), ("0 []", "0 [{}]", (uses, 14)), ("[] [] []", "[] [{}] []", (uses, 17)),
                                 ("[] [] []", "[] [] [{}]", (others, 20)), ("[p]", "[{}]", (wanted, 23))):
            (most, more), at = places
            self.refuses("question", QUESTION_TEXT.replace(old, new.format(most), 1), None)
            self.refuses("question", QUESTION_TEXT.replace(old, new.format(more), 1), at + len(most))
        self.refuses("question", QUESTION_TEXT.replace("[p]", "[]"), 23)

    def test_lines_of_stores(self):
        lines = {"certificate": [f"certificate {at} a a 0 0 0 0 {{}} 0\n" for at in range(31)],
                 "list": [f"list a 0 {at} - 0 0 all no [] [] 0\n" for at in range(13)],
                 "anchor": [f"anchor a {at} [] [] -\n" for at in range(7)]}
        for sort, most in (("certificate", 30), ("list", 12), ("anchor", 6)):
            full = "".join(lines[sort][:most])
            self.refuses("store", full, None)
            self.refuses("store", full + lines[sort][most], len(full))
        one = {sort: rows[0] for sort, rows in lines.items()}
        self.refuses("store", one["certificate"] + one["list"] + one["anchor"], None)
        for first, second in (("list", "certificate"), ("anchor", "list"), ("anchor", "certificate")):
            self.refuses("store", one[first] + one[second], len(one[first]))
        self.refuses("store", one["anchor"][:-1], len(one["anchor"]) - 1)
        self.refuses("store", one["anchor"] + "\n", len(one["anchor"]))
        self.refuses("store", "\n" + one["anchor"], 0)
        self.refuses("store", "question", 0)
        self.refuses("store", "", None)
        for rows in ([one["anchor"]] * 2, lines["certificate"][:2][::-1], lines["list"][:2][::-1], [one["certificate"]] * 2):
            self.reads("store", "".join(rows), InvalidStore)

    def test_read_and_then_refused(self):
        """What is told by signs alone is read; only then it is looked at."""
        head = "certificate 7 root root 11 5 100 200 {"
        for parts in ("uses[sign] basic(yes,0)", "odd(no,a) odd(no,a)", "odd(no,a) odd(yes,a)", "uses[sign,agree]", "uses[sign,sign]",
                      "purposes[sign,any]", "purposes[call,call]", "basic(no,0)", "policylimits(-,-)", "policies[q,p]", "policies[p,p]",
                      "mappings[any>p]", "mappings[p>any]", "names[number(2),number(1)]", "permitted[number(9..1)]", "lists[b,a]"):
            self.reads("certificate", head + parts + "} 9", InvalidCertificate)
        self.reads("certificate", "certificate 7 root root 11 5 200 100 {} 9", InvalidCertificate)
        for text in ("list a 0 1 - 0 0 all no [] [a:1:0:back] 0", "list a 0 1 1 0 0 all no [] [] 0", "list a 0 1 - 9 0 all no [] [] 0",
                     "list a 0 1 - 0 0 all no [key,hold] [] 0", "list a 0 1 - 0 0 all no [] [b:1:0:key] 0",
                     "list a 0 1 - 0 0 all no [] [a:2:0:key,a:1:0:key] 0", "list a 0 1 - 0 0 all no [hold] [a:1:0:key] 0",
                     "list a 0 0 0 0 0 all no [] [] 0", "list a 0 1 5 0 0 all no [] [] 0"):
            self.reads("list", text, InvalidList)
        self.reads("list", "list a 0 1 0 0 0 all no [] [a:1:0:back] 0")
        for text in ("anchor a 1 [number(2..1)] [] -", "anchor a 1 [name(),house()] [] -", "anchor a 1 [] [name(),name()] -"):
            self.reads("anchor", text, InvalidAnchor)
        self.reads("subtree", "number(2..1)", InvalidSubtree)
        for old, new in (("question 0", "question 3"), ("question 0", "question 29"), ("0 [] []", "0 [sign,agree] []"),
                         ("[] [] []", "[] [call,call] []"), ("[p]", "[q,p]"), ("1 []", "1 [b:1,a:1]"), ("[] [p]", "[number(2),number(2)] [p]")):
            self.reads("question", QUESTION_TEXT.replace(old, new, 1), InvalidQuestion)

    def test_words_of_choices(self):
        head = "certificate 7 root root 11 5 100 200 {"
        for text, place in (("sign", None), ("sig", 3), ("signs", 4), ("sing", 2), ("certs,x", 6), ("", None), ("any", 1), ("serve", 1),
                            ("Sign", 0), ("sign,", 5), (" sign", 0)):
            self.refuses("certificate", f"{head}uses[{text}]}} 9", None if place is None else len(head) + 5 + place)
        for text, place in (("any(", 3), ("anylimit[", 8), ("anylimits(", 8), ("polic(", 5), ("policie[", 7), ("policies(", 8), ("policyl", 7),
                            ("policylimits[", 12), ("pur", 3), ("per", 3), ("name[", 4), ("user[", 3), ("uses ", 4), ("odd[", 3), ("x", 0)):
            self.refuses("certificate", head + text, len(head) + place)

    def test_long_texts_are_read_within_seconds(self):
        parts = (("names", tuple(("house", ("a" * 12, f"{number:012d}", "b" * 12, "c" * 12)) for number in range(8))),)
        text = write_store((tuple(with_item(with_item(PLAIN, 0, serial), 7, parts) for serial in range(30)), (), ()))
        self.assertTrue(15000 < len(text) <= 20000)
        begin = time.process_time()
        for other in (text, "a" * 20000, "certificate " * 1600, text[:-1]):
            first_refused("store", other)
        for sort in FORMS:
            first_refused(sort, "7" * 20000)
        self.assertLess(time.process_time() - begin, 10)
        self.assertEqual(write_store(read_store(text)), text)


class Names(Texts):
    def test_names_of_stores_are_read_back(self):
        for name in names(12):
            self.assertEqual(self.reads("name", write_name(name)), name)
