"""The examples of the interface of points 85 and 88 to 97, as they stand there."""

from chainpapers.answers import answered, cut_words, takes
from chainpapers.answertimes import answers_over, change_times, times_let
from chainpapers.askings import least_most, policies_held, purposes_let, uses_let
from chainpapers.desk import Desk
from chainpapers.diagnoses import hanging_chains, least_flawed
from chainpapers.differences import store_steps
from chainpapers.pathlists import least_path, paths_of
from chainpapers.sealing import sealed_certificate, sealed_list
from chainpapers.texts import first_refused, read_certificate, read_name, read_subtree, write_certificate, write_list
from tests.support import Case
from tests.test_examples_paths import TREE_TEXT

TIME_TEXT = """
    >>> JA = (("r",), 5, (), (), -1)
    >>> JH = sealed_certificate((1, ("r",), ("r", "a"), 11, 5, 0, 90, (("basic", (True, 0)),), 0))
    >>> JT = sealed_certificate((2, ("r", "a"), ("t",), 12, 11, 20, 60, (), 0))
    >>> JS, JQ = ((JH, JT), (), (JA,)), (1, 50, (), (), (), ("any",), ("no", 0, -1, -1, -1), 8, ())
"""


class Examples(Case):
    def test_pathlists(self):
        self.shows(TREE_TEXT + """
    >>> [paths_of(HS, HQ), least_path(HS, HQ), least_path(HS, (2,) + HQ[1:])]
    [[(0, (0, 1))], (0, (0, 1)), None]
""", dict(globals()))

    def test_texts(self):
        self.shows("""
    >>> IC = (7, ("root",), ("root", "web"), 11, 5, 100, 200, (("basic", (True, 0)), ("names", (("house", ("a", "b")), ("number", 3)))), 9)
    >>> [write_certificate(IC), read_certificate(write_certificate(IC)) == IC, read_subtree("letter(@a/b)"), read_name("root/web")]
    ['certificate 7 root root/web 11 5 100 200 {basic(yes,0) names[house(a/b),number(3)]} 9', True, ('letter', '', ('a', 'b')), ('root', 'web')]
    >>> [first_refused("name", "root//web"), first_refused("other", "number(70000)"), first_refused("anchor", "anchor a 07 [] [] -"), first_refused("subtree", "name(a"), first_refused("store", "")]
    [5, 11, 10, 6, None]
""", dict(globals()))

    def test_differences(self):
        self.shows("""
    >>> [store_steps(((), (), ((("a",), 1, (), (), -1),)), ((), (), ((("a",), 1, (), (), 0),)))]
    [(('out', 'anchor a 1 [] [] -'), ('put', 'anchor a 1 [] [] 0'))]
""", dict(globals()))

    def test_desk(self):
        self.shows("""
    >>> ID = Desk()
    >>> ID.put("anchor root 5 [] [] -")
    >>> ID.withdraw(("root",), 5, 7, 150, "hold", 100, 200) == write_list(sealed_list((("root",), 5, 0, -1, 100, 200, ("all", False, ()), ((("root",), 7, 150, "hold"),), 0)))
    True
    >>> [len(ID.deeds()), ID.undo()[0], ID.undo(), ID.redo(), ID.deeds()]
    [2, 'put', ('put', 'anchor root 5 [] [] -'), ('put', 'anchor root 5 [] [] -'), [('put', 'anchor root 5 [] [] -')]]
""", dict(globals()))

    def test_answers(self):
        self.shows(TIME_TEXT + """
    >>> [answered(JS, JQ), takes(JS, JQ, ("path", (0, (0, 1)), ())), takes(JS, JQ, ("none", ())), cut_words(JS, JQ), cut_words(JS, JQ[:1] + (70,) + JQ[2:])]
    [('path', (0, (0, 1)), ()), True, False, None, (('time', 1),)]
""", dict(globals()))

    def test_answertimes(self):
        self.shows(TIME_TEXT + """
    >>> [change_times(JS, JQ, 10, 80), times_let(JS, JQ, 0, 100), times_let(JS, JQ, 61, 100), [pair[0] for pair in answers_over(JS, JQ, 10, 80)]]
    [(10, 20, 61), ((20, 60),), (), [10, 20, 61]]
""", dict(globals()))

    def test_askings(self):
        self.shows(TIME_TEXT + """
    >>> [purposes_let(JS, JQ), uses_let(JS, JQ)[:2], policies_held(JS, JQ), least_most(JS, JQ)]
    [('call', 'serve', 'sign', 'stamp'), ('agree', 'certs'), (), 2]
""", dict(globals()))

    def test_diagnoses(self):
        self.shows(TIME_TEXT + """
    >>> [hanging_chains(JS, JQ), least_flawed(JS, JQ), least_flawed(JS, JQ[:1] + (70,) + JQ[2:]), least_flawed(JS, JQ[:7] + (1, ()))]
    [[(0, (0, 1))], ((0, (0, 1)), ()), ((0, (0, 1)), ((1, 3),)), None]
""", dict(globals()))
