"""Rows of certificates, lists, anchors, stores and questions: [50]."""

from chainpapers.certificates import is_certificate
from chainpapers.errors import BadRow, InvalidAnchor, InvalidCertificate, InvalidList, InvalidQuestion, InvalidRow
from chainpapers.errors import InvalidStore, TooMany
from chainpapers.sealing import certificate_row, list_row
from chainpapers.thingrows import anchor_row, question_row, read_anchor, read_certificate, read_list, read_question
from chainpapers.thingrows import read_store, store_row
from chainpapers.valuerows import first_refused, row_of
from tests.support import Case, odd_values, same, spoiled
from tests.things import ANCHOR, BARE_QUESTION, DELTA, EMPTY_STORE, FULL, OPEN_ANCHOR, PLAIN, QUESTION, SELF, STORE
from tests.things import WHOLE, with_item

NO_ROWS = odd_values((), (0,), (1, 2, 3), (0,) * 20000) + [[], (256,), (True,), (0,) * 20001]


def read_its_question(row):
    return read_question(STORE, row)


# How each sort is read, what is raised for what is no such thing, and things of it.
SORTS = [
    (read_certificate, InvalidCertificate, (PLAIN, FULL, SELF)),
    (read_list, InvalidList, (WHOLE, DELTA)),
    (read_anchor, InvalidAnchor, (ANCHOR, OPEN_ANCHOR)),
    (read_store, InvalidStore, (STORE, EMPTY_STORE)),
    (read_its_question, InvalidQuestion, (QUESTION, BARE_QUESTION)),
]


def store_of_length(length):
    """A store whose row has a length: each sign more of a word is one octet more."""
    def store(sizes):
        sizes = iter(sizes)
        held = []
        for serial in range(25):
            parts = tuple((word, tuple(("house", tuple("abcdefgh"[at] * next(sizes) for _ in range(4)))
                                       for at in range(8))) for word in ("excluded", "permitted"))
            held.append(with_item(with_item(PLAIN, 7, parts), 0, serial))
        return (tuple(held), (WHOLE,), (ANCHOR,))

    many = 25 * 64
    more = length - len(row_of(store([1] * many)))
    return store([1 + max(0, min(11, more - 11 * at)) for at in range(many)])


class ThingRows(Case):
    def test_rows_are_those_of_the_values(self):
        for anchor in (ANCHOR, OPEN_ANCHOR):
            self.assertEqual(self.keeps(anchor_row, anchor), row_of(anchor))
        for store in (STORE, EMPTY_STORE):
            self.assertEqual(self.keeps(store_row, store), row_of(store))
        for question in (QUESTION, BARE_QUESTION):
            self.assertEqual(self.keeps(question_row, STORE, question), row_of(question))

    def test_what_is_read_has_the_row(self):
        for read, _, things in SORTS:
            for thing in things:
                self.assertTrue(same(self.keeps(read, row_of(thing)), thing))
        self.assertEqual(read_certificate(certificate_row(FULL)), FULL)
        self.assertEqual(read_list(list_row(DELTA)), DELTA)

    def test_rows_of_one_sort_read_as_another(self):
        for read, error, things in SORTS:
            for other, _, others in SORTS:
                for thing in others:
                    if other is not read and thing not in things:
                        self.raises(error, read, row_of(thing))
            for value in (0, True, "", "any", (), (0,), things[:1]):
                if value not in things:
                    self.raises(error, read, row_of(value))

    def test_rows_of_spoiled_things(self):
        for read, error, things in SORTS:
            for thing in things[:1]:
                for other in spoiled(thing):
                    if "None" not in repr(other) and "[" not in repr(other) and first_refused(row_of(other)) is None:
                        self.raises(error, read, row_of(other))

    def test_rows_cut(self):
        for read, _, things in SORTS:
            row = row_of(things[0])
            for at in range(len(row)):
                self.raises(BadRow, read, row[:at], at=at)
            self.raises(BadRow, read, row + (4,), at=len(row))

    def test_rows_hurt_at_an_octet(self):
        row = certificate_row(FULL)
        for at, there in enumerate(row):
            for octet in (0, 255, there ^ 1, there ^ 64, there ^ 128):
                hurt = row[:at] + (octet,) + row[at + 1:]
                refused = first_refused(hurt)
                try:
                    thing = read_certificate(hurt)
                except BadRow as error:
                    self.assertEqual(error.at, refused)
                except InvalidCertificate:
                    self.assertIsNone(refused)
                else:
                    self.assertTrue(is_certificate(thing))
                    self.assertEqual(certificate_row(thing), hurt)

    def test_longest_store(self):
        self.assertEqual(len(store_row(store_of_length(20000))), 20000)
        self.assertEqual(read_store(store_row(store_of_length(20000))), store_of_length(20000))
        self.assertEqual(len(row_of(store_of_length(20001))), 20001)
        self.raises(TooMany, store_row, store_of_length(20001), limit=20000)
        self.raises(InvalidRow, read_store, row_of(store_of_length(20001)))

    def test_questions_are_of_their_store(self):
        small = ((PLAIN,), (), ())
        self.assertEqual(read_question(small, row_of(BARE_QUESTION)), BARE_QUESTION)
        self.raises(InvalidQuestion, read_question, small, row_of(QUESTION))
        self.raises(InvalidQuestion, question_row, small, QUESTION)
        self.raises(InvalidQuestion, read_question, EMPTY_STORE, row_of(BARE_QUESTION))

    def test_errors(self):
        no_stores = odd_values(((),) * 3) + [STORE[:2]]
        self.checks(anchor_row, (ANCHOR,), [(odd_values() + [PLAIN], InvalidAnchor)])
        self.checks(store_row, (STORE,), [(no_stores, InvalidStore)])
        self.checks(question_row, (STORE, QUESTION),
                    [(no_stores, InvalidStore), (odd_values() + [QUESTION[:8]], InvalidQuestion)])
        for read, _, things in SORTS:
            self.checks(read, (row_of(things[0]),), [(NO_ROWS, InvalidRow)])
        self.checks(read_question, (STORE, row_of(QUESTION)), [(no_stores, InvalidStore), (NO_ROWS, InvalidRow)])
        self.raises(InvalidStore, read_question, (), (0,))
        self.raises(BadRow, read_question, STORE, (0,), at=0)
