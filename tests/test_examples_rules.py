"""The examples of the interface of points 50 to 59, as they stand there."""

from chainpapers.constraints import bar_paper, gathered, lets
from chainpapers.depths import counted_behind, depth_of, left_row
from chainpapers.orderrows import order_goes_on, order_row, read_order
from chainpapers.regions import is_in, is_region, less_of, other_of, region_of, whole_region
from chainpapers.rights import chain_purposes, may_seal, purposes_of, uses_of
from chainpapers.rowchanges import change_back, change_of, changed_row, changed_value, changes_of
from chainpapers.subtrees import holds, is_within
from chainpapers.thingrows import anchor_row, read_store
from chainpapers.witnesses import cover_paper, title_in
from tests.support import Case

CR_TEXT = """
    >>> CR = region_of((("house", ("x",)), ("house", ("x", "y")), ("letter", "me", ("x",)), ("number", 4, 5), ("number", 6, 9)))
"""
CHAIN_TEXT = """
    >>> DC = (1, ("r",), ("r", "a"), 11, 5, 10, 90, (("basic", (True, 0)), ("purposes", ("call", "serve"))), 0)
    >>> DS = (2, ("r", "a"), ("r", "a"), 12, 11, 0, 60, (("basic", (True, -1)),), 0)
    >>> DT = (3, ("r", "a"), ("r", "b"), 13, 12, 20, 70, (("uses", ("sign",)),), 0)
"""


class Examples(Case):
    def test_thingrows(self):
        self.shows("""
    >>> [anchor_row((("r",), 5, (), (), -1)), read_store((3, 3, 3, 0, 3, 0, 3, 0))]
    [(3, 5, 3, 1, 2, 1, 114, 1, 6, 3, 0, 3, 0, 1, 0), ((), (), ())]
""", dict(globals()))

    def test_rowchanges_of_rows(self):
        self.shows("""
    >>> [change_of((1, 2, 3), (1, 9, 3)), change_of((7, 7), (7, 7, 7)), changed_row((1, 2, 3), (1, 1, (9,))), change_back((1, 2, 3), (1, 1, (9,)))]
    [(1, 1, (9,)), (2, 0, (7,)), (1, 9, 3), (1, 1, (2,))]
""", dict(globals()))

    def test_rowchanges_of_values(self):
        self.shows("""
    >>> [changes_of((1, (2, 3), "a"), (1, (2, 4), "b")), changes_of((1, 0), (True, 0)), changed_value((1, (2, 3)), (((0,), ()), ((1, 0), "z")))]
    [(((1, 1), 4), ((2,), 'b')), (((0,), True),), ((), ('z', 3))]
""", dict(globals()))

    def test_orderrows(self):
        self.shows("""
    >>> [order_row((5, "ab", True)), read_order((4, 1, 0, 0)), order_goes_on((2, 1)), order_goes_on((4,))]
    [(4, 2, 0, 0, 0, 0, 6, 3, 97, 98, 0, 1, 1, 0), (False,), (0,), (0, 1, 2, 3, 4)]
""", dict(globals()))

    def test_subtrees(self):
        self.shows("""
    >>> [holds(("house", ("x",)), ("house", ("x", "y"))), holds(("letter", "me", ("x",)), ("letter", "me", ("x", "y"))), holds(("name", ()), ("house", ("x",)))]
    [True, False, False]
    >>> [is_within(("letter", "me", ("x", "y")), ("letter", "", ("x",))), is_within(("letter", "me", ()), ("number", 1, 2)), is_within(("house", ("x",)), ("house", ("x", "y")))]
    [True, True, False]
""", dict(globals()))

    def test_regions(self):
        self.shows(CR_TEXT + """
    >>> CR
    (((('x',), True),), ((('x', '@me'), True),), (), ((4, 9),))
    >>> less_of(CR, region_of((("house", ("x", "y")), ("number", 6, 6))))
    (((('x',), True), (('x', 'y'), False)), ((('x', '@me'), True),), (), ((4, 5), (7, 9)))
    >>> [is_in(CR, ("house", ("x", "z"))), other_of(CR)[3], is_region(((((), False),), (), (), ())), is_region(((), (), (), ((1, 2), (3, 3))))]
    [True, ((0, 3), (10, 65535)), False, False]
""", dict(globals()))

    def test_witnesses(self):
        self.shows(CR_TEXT + """
    >>> [title_in(((), (), (), ((7, 9),))) in (("number", 7), ("number", 8), ("number", 9)), title_in(((), (), (), ())), cover_paper(whole_region(), CR), is_in(CR, cover_paper((CR[0], (), (), CR[3]), CR))]
    [True, None, None, True]
""", dict(globals()))

    def test_constraints(self):
        self.shows("""
    >>> CP = (((("house", ("x",)),), ()), ((), (("house", ("x", "y")),)))
    >>> [gathered(CP)[0], gathered(()) == whole_region(), lets((("number", 1, 2),), (), ("house", ("q",))), bar_paper(CP, ("house", ("x", "y", "z"))), bar_paper(CP, ("house", ("q",)))]
    [((('x',), True), (('x', 'y'), False)), True, True, ('inside', 1, 0), ('outside', 0)]
""", dict(globals()))

    def test_rights(self):
        self.shows(CHAIN_TEXT + """
    >>> [uses_of(DT), purposes_of(DC), may_seal(DS), may_seal(DT), chain_purposes((DC, DS, DT))]
    [('sign',), ('call', 'serve'), True, False, ('call', 'serve')]
""", dict(globals()))

    def test_depths(self):
        self.shows(CHAIN_TEXT + """
    >>> [depth_of(DT), counted_behind((DC, DS, DT), -1), left_row(-1, (DC, DS, DT)), left_row(0, (DC, DS, DT)), left_row(0, (DT,))]
    [-1, [0], [0, 0], [-2], []]
""", dict(globals()))
