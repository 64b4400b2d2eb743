"""The examples of the interface of points 42 to 49, as they stand there."""

from chainpapers.certificates import is_certificate, is_self_issued, part_of, with_part
from chainpapers.files import file_row, open_file, places_of, sealed_file, values_ahead
from chainpapers.names import is_name, is_other_name, is_subtree
from chainpapers.seals import is_row, seal_of
from chainpapers.sealing import certificate_row, is_sealed, is_sealed_list, sealed_certificate, sealed_list
from chainpapers.stores import is_anchor, is_list, is_question, is_store
from chainpapers.valuerows import first_refused, goes_on, read_value, row_of
from tests.support import Case

C_TEXT = """
    >>> C = (7, ("root",), ("root", "web"), 11, 5, 100, 200, (("basic", (True, 0)), ("uses", ("certs",))), 0)
"""
L_TEXT = """
    >>> L = (("root",), 5, 3, -1, 100, 200, ("all", False, ()), ((("root",), 7, 150, "key"),), 0)
"""


class Examples(Case):
    def test_names(self):
        self.shows("""
    >>> [is_name(("root", "a1")), is_name(()), is_other_name(("number", 7)), is_other_name(("letter", "", ("a",))), is_subtree(("letter", "", ())), is_subtree(("number", 9, 3))]
    [True, False, True, False, True, False]
""", dict(globals()))

    def test_seals(self):
        self.shows("""
    >>> [is_row((0, 255)), is_row([1]), seal_of(5, ()), seal_of(1, (2, 3))]
    [True, False, 30, 170479686]
""", dict(globals()))

    def test_certificates(self):
        self.shows(C_TEXT + """
    >>> [is_certificate(C), is_certificate(C[:8]), part_of(C, "basic"), part_of(C, "names"), is_self_issued(C), with_part(C, "uses", None)[7]]
    [True, False, (True, 0), None, False, (('basic', (True, 0)),)]
""", dict(globals()))

    def test_stores(self):
        self.shows(C_TEXT + L_TEXT + """
    >>> A = (("root",), 5, (), (), -1)
    >>> [is_list(L), is_anchor(A), is_store(((C,), (L,), (A,))), is_store(((C, C), (), ())), is_question(((C,), (), (A,)), (0, 150, (), (), (), ("any",), ("no", 0, -1, -1, -1), 8, ()))]
    [True, True, True, False, True]
""", dict(globals()))

    def test_sealing(self):
        self.shows(C_TEXT + L_TEXT + """
    >>> [is_sealed(C), is_sealed(sealed_certificate(C)), is_sealed_list(sealed_list(L)), certificate_row(C)[:14]]
    [False, True, True, (3, 9, 1, 8, 3, 1, 2, 4, 114, 111, 111, 116, 3, 2)]
""", dict(globals()))

    def test_valuerows(self):
        self.shows("""
    >>> [row_of((5, "ab", True)), read_value((3, 2, 4, 0, 1, 1)), first_refused((1, 128, 0)), goes_on((4,)), goes_on((1, 0, 1))]
    [(3, 3, 1, 6, 2, 2, 97, 98, 4, 1), (False, 0), 2, (0, 1), None]
""", dict(globals()))

    def test_files(self):
        self.shows("""
    >>> [file_row((True, -1)), values_ahead((4, 1, 1, 0, 3, 2, 1, 5)), places_of((4, 1, 1, 0)), sealed_file(5, ()), open_file(5, (1, 31))]
    [(4, 1, 1, 0), ((True, -1), 4), (0, 2), (1, 31), ()]
""", dict(globals()))
