"""The examples of the interface of points 78 to 87, as they stand there."""

from chainpapers.builder import built, built_whole
from chainpapers.candidates import candidates, fits_behind, linked, links
from chainpapers.hangingchains import does_hang, walk_of
from chainpapers.laxer import is_laxer
from chainpapers.plainly import plain_bars, reason_word
from chainpapers.sealing import sealed_certificate
from chainpapers.storechanges import moved_chain, with_certificate, without_certificate
from chainpapers.targets import built_each, needed, reached
from chainpapers.treepapers import takes_built, takes_tree
from chainpapers.walks import states_along, walk
from chainpapers.walkstates import begun
from tests.support import Case
from tests.test_examples_walks import WALK_TEXT

TREE_TEXT = """
    >>> HA, HB = (("r",), 5, (), (), -1), (("s",), 6, (), (), -1)
    >>> HH = sealed_certificate((1, ("r",), ("r", "a"), 11, 5, 0, 90, (("basic", (True, 0)),), 0))
    >>> HT = sealed_certificate((2, ("r", "a"), ("t",), 12, 11, 0, 90, (), 0))
    >>> HU = sealed_certificate((3, ("t",), ("u",), 13, 12, 0, 90, (), 0))
    >>> HS, HQ = ((HH, HT, HU), (), (HA, HB)), (1, 50, (), (), (), ("any",), ("no", 0, -1, -1, -1), 8, ())
"""


class Examples(Case):
    def test_walks(self):
        self.shows(WALK_TEXT + """
    >>> [walk(GS, GQ, 0, (0, 1)), walk(GS, GQ, 0, (1,)), walk(GS, GQ, 0, (0, 0, 1)), len(states_along(GS, GQ, 0, (0, 1)))]
    [('let', ()), ('barred', 0, 'issuer'), ('barred', 1, 'issuer'), 2]
""", dict(globals()))

    def test_plainly(self):
        self.shows(WALK_TEXT + """
    >>> [plain_bars(GS, GQ, 0, (0, 1)), plain_bars(GS, GQ, 0, (1,)), plain_bars(GS, GQ, 0, (0, 0, 1)), reason_word(12)]
    [(), ((0, 0), (0, 1)), ((1, 0), (1, 1), (1, 12)), 'depth']
""", dict(globals()))

    def test_laxer(self):
        self.shows(WALK_TEXT + """
    >>> [is_laxer(begun(GS, GQ, 0), begun(GS, GQ, 0)), is_laxer(begun(GS, GQ, 0)[:2] + (-1,) + begun(GS, GQ, 0)[3:], begun(GS, GQ, 0))]
    [True, True]
""", dict(globals()))

    def test_candidates(self):
        self.shows(TREE_TEXT + """
    >>> [candidates(HS, ("r",), 5), candidates(HS, ("r",), 6), links(HS), linked(HS), fits_behind(HT, ("r", "a"), 11)]
    [(0,), (), ((0, 1), (1, 2)), (0, 1, 2), True]
""", dict(globals()))

    def test_hangingchains(self):
        self.shows(TREE_TEXT + """
    >>> [does_hang(HS, HQ, (0, (0, 1))), does_hang(HS, HQ, (1, (0, 1))), does_hang(HS, HQ, (0, (0,))), walk_of(HS, HQ, (0, (0, 1)))]
    [True, False, False, ('path', ())]
    >>> walk_of(HS, (2,) + HQ[1:], (0, (0, 1, 2)))
    ('barred', 1, 'head')
""", dict(globals()))

    def test_builder(self):
        self.shows(TREE_TEXT + """
    >>> [built(HS, HQ), built(HS, (2,) + HQ[1:])]
    [('path', (0, (0, 1)), ()), ('none', (('knot', ((0, ('knot', ((1, ('barred', 'head')),))),)), ('knot', ())))]
    >>> built_whole(HS, (1,) + HQ[1:7] + (1, ()))
    ('none', (('knot', ((0, ('knot', ((1, ('long',)),))),)), ('knot', ())))
""", dict(globals()))

    def test_treepapers(self):
        self.shows(TREE_TEXT + """
    >>> [takes_tree(HS, HQ, (("knot", ()), ("knot", ()))), takes_built(HS, HQ, ("path", (0, (0, 1)), ())), takes_built(HS, (2,) + HQ[1:], built(HS, (2,) + HQ[1:]))]
    [False, True, True]
""", dict(globals()))

    def test_storechanges(self):
        self.shows(TREE_TEXT + """
    >>> [without_certificate(HS, 0)[0] == (HS[0][1], HU), with_certificate(without_certificate(HS, 0), HH) == HS, moved_chain(HS, without_certificate(HS, 0), (0, (1, 2)))]
    [True, True, (0, (0, 1))]
""", dict(globals()))

    def test_targets(self):
        self.shows(TREE_TEXT + """
    >>> [[item[0] for item in built_each(HS, HQ, (0, 2))], reached(HS, HQ), needed(HS, HQ), needed(HS, (2,) + HQ[1:])]
    [['path', 'none'], (0, 1), (0, 1), None]
""", dict(globals()))
