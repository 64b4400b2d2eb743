"""The examples of the interface of points 69 to 77, as they stand there."""

from chainpapers.deltas import can_be_laid, laid_entries
from chainpapers.histories import entries_after, history_list
from chainpapers.reaching import family_of, list_names, reaches
from chainpapers.sealing import sealed_certificate, sealed_list
from chainpapers.statechanges import state_changes
from chainpapers.steps import ended, entered, passed
from chainpapers.views import newest_views, views_of
from chainpapers.walkstates import begun, is_walk_state, titles_of, walk_sealers
from chainpapers.withdrawal import state_of, state_word
from chainpapers.withdrawalpapers import takes_state
from tests.support import Case

LIST_TEXT = """
    >>> C = (7, ("root",), ("root", "web"), 11, 5, 100, 200, (("basic", (True, 0)), ("uses", ("certs",))), 0)
    >>> L = (("root",), 5, 3, -1, 100, 200, ("all", False, ()), ((("root",), 7, 150, "key"),), 0)
    >>> FS = ((("root",), 5),)
    >>> FD = L[:2] + (5, 2) + L[4:7] + (((("root",), 7, 160, "back"), (("root",), 9, 155, "hold")), 0)
    >>> FL = tuple(sorted((sealed_list(L), sealed_list(FD))))
"""
WALK_TEXT = """
    >>> GA = (("root",), 5, (), (("name", ("root", "b")),), 1)
    >>> GH = (1, ("root",), ("root", "a"), 11, 5, 100, 200, (("basic", (True, 0)),), 0)
    >>> GT = (2, ("root", "a"), ("root", "a", "w"), 12, 11, 100, 200, (("names", (("number", 7),)),), 0)
    >>> GS, GQ = ((sealed_certificate(GH), sealed_certificate(GT)), (), (GA,)), (1, 150, (), (), (), ("any",), ("no", 0, -1, -1, -1), 8, ())
"""


class Examples(Case):
    def test_reaching(self):
        self.shows(LIST_TEXT + """
    >>> [list_names(C), family_of(L), reaches(L, FS, C, 150, 0), reaches(sealed_list(L), FS, C, 150, 0), reaches(sealed_list(L), FS, C, 203, 3), reaches(sealed_list(L), FS, C, 203, 2)]
    [(('root',),), (('root',), 5, ('all', False, ())), False, True, True, False]
""", dict(globals()))

    def test_deltas(self):
        self.shows(LIST_TEXT + """
    >>> [can_be_laid(L, FD), can_be_laid(FD, L), laid_entries(L, FD)]
    [True, False, ((('root',), 9, 155, 'hold'),)]
""", dict(globals()))

    def test_histories(self):
        self.shows(LIST_TEXT + """
    >>> FH = (((("root",), 7, 150, "key"),), ((("root",), 7, 160, "back"), (("root",), 9, 155, "hold")))
    >>> FF = (("root",), 5, 100, 200, ("all", False, ()))
    >>> [entries_after(FH, 1), entries_after(FH, 2), history_list(FH, FF, -1, 1)[:8] == L[:2] + (1,) + L[3:8], history_list(FH, FF, 1, 2)[2:4]]
    [((('root',), 7, 150, 'key'),), ((('root',), 9, 155, 'hold'),), True, (2, 1)]
""", dict(globals()))

    def test_views(self):
        self.shows(LIST_TEXT + """
    >>> [views_of(FL, FS, C, 160, 0), newest_views(FL, FS, C, 160, 0)]
    [[(0, -1), (0, 1)], [(0, 1)]]
""", dict(globals()))

    def test_withdrawal(self):
        self.shows(LIST_TEXT + """
    >>> [state_of(FL[:1], FS, C, 150, 0), state_word(FL[:1], FS, C, 149, 0), state_word(FL, FS, C, 160, 0), state_of((), FS, C, 150, 0)[0]]
    [('withdrawn', 0, -1, (('root',), 7, 150, 'key')), 'good', 'good', 'unknown']
""", dict(globals()))

    def test_withdrawalpapers(self):
        self.shows(LIST_TEXT + """
    >>> [takes_state(FL[:1], FS, C, 150, 0, ("withdrawn", 0, -1, (("root",), 7, 150, "key"))), takes_state(FL, FS, C, 160, 0, ("good", ((0, 1),) * 7)), takes_state(FL, FS, C, 160, 0, ("good", ((0, -1),) * 7))]
    [True, True, False]
""", dict(globals()))

    def test_statechanges(self):
        self.shows(LIST_TEXT + """
    >>> state_changes(FL[:1], FS, C, 0, 90, 300)
    ((90, 'unknown'), (100, 'good'), (150, 'withdrawn'), (201, 'unknown'))
""", dict(globals()))

    def test_walkstates(self):
        self.shows(WALK_TEXT + """
    >>> [begun(GS, GQ, 0)[:3], titles_of(GT), is_walk_state(begun(GS, GQ, 0)), walk_sealers(GS, GQ, begun(GS, GQ, 0))]
    [(('root',), 5, 1), (('name', ('root', 'a', 'w')), ('number', 7)), True, ((('root',), 5),)]
""", dict(globals()))

    def test_steps(self):
        self.shows(WALK_TEXT + """
    >>> GB = begun(GS, GQ, 0)
    >>> GD = passed(GS, GQ, entered(GS, GQ, GB, 0)[1], 0)[1]
    >>> [entered(GS, GQ, GB, 0)[0], GD[:3], entered(GS, GQ, GB, 1), ended(GS, GQ, entered(GS, GQ, GD, 1)[1], 1)]
    ['on', (('root', 'a'), 11, 0), ('barred', 'issuer'), ('let', ())]
""", dict(globals()))
