"""The examples of the interface of points 60 to 68, as they stand there."""

from chainpapers.bars import all_bars, first_bar, is_let, takes_bar
from chainpapers.limits import are_laxer, limits_behind, limits_let, limits_of, limits_parting, limits_started
from chainpapers.policyleads import led_on, policy_leads
from chainpapers.policyorder import policy_laxer
from chainpapers.policypapers import held_row, lost_sets, shows_lost
from chainpapers.policyparts import limits_of as numbers_of
from chainpapers.policyparts import numbers_along
from chainpapers.policyrows import expected_from, is_policy_row, origin_of, policy_rows, words_from
from chainpapers.policysteps import policies_let, policy_entered, policy_passed, policy_start
from chainpapers.times import chain_times, has_time, is_times, times_joined, times_less, times_met, times_of_chains
from tests.support import Case
from tests.test_examples_rules import CHAIN_TEXT

PATH_TEXT = """
    >>> EP = (1, ("root",), ("a",), 1, 2, 0, 9, (("policies", ("p", "q")),), 0)
    >>> EQ = (2, ("a",), ("b",), 3, 1, 0, 9, (("mappings", (("p", "r"),)), ("policies", ("any",)), ("policylimits", (3, -1))), 0)
    >>> ET = (3, ("b",), ("c",), 4, 3, 0, 9, (("policies", ("q", "r")),), 0)
"""


class Examples(Case):
    def test_times(self):
        self.shows(CHAIN_TEXT + """
    >>> [chain_times((DC, DS, DT)), times_joined(((1, 3),), ((4, 6),)), times_less(((0, 10),), ((3, 5),)), times_met(((0, 4), (7, 9)), ((3, 8),))]
    [((20, 60),), ((1, 6),), ((0, 2), (6, 10)), ((3, 4), (7, 8))]
    >>> [is_times(((1, 3), (4, 6))), has_time(((1, 3),), 3), times_of_chains(((DC,), (DS,)))]
    [False, True, ((0, 90),)]
""", dict(globals()))

    def test_limits(self):
        self.shows(CHAIN_TEXT + """
    >>> [limits_of(-1, (DC, DS, DT)), limits_of(0, (DC, DS, DT)), limits_of(-1, (DT, DT)), limits_behind(limits_started(3), DT, True)]
    [(0, ('call', 'serve'), 20, 60), (0, 'depth'), (0, 'seal'), (3, ('call', 'serve', 'sign', 'stamp'), 20, 70)]
    >>> [limits_let(limits_of(-1, (DC,)), 10, ("serve",)), are_laxer(limits_started(-1), limits_started(8)), limits_parting(limits_started(-1), limits_started(8)), limits_parting(limits_started(2), limits_started(-1))[0] > 2]
    [True, True, None, True]
""", dict(globals()))

    def test_bars(self):
        self.shows(CHAIN_TEXT + """
    >>> [is_let(-1, (DC, DS, DT), 30, ("serve",), ("sign",)), all_bars(0, (DC, DS, DT), 5, ("sign",), ()), first_bar(0, (DC, DS, DT), 5, ("sign",), ())]
    [True, (('depth', -1, (0,)), ('early', 0, 10), ('early', 2, 20), ('purpose', 0, 'sign')), ('depth', -1, (0,))]
    >>> [takes_bar(-1, (DC, DT), 30, (), ("lists",), ("use", 1, "lists")), takes_bar(-1, (DC, DT), 30, (), (), ("head", 0)), first_bar(-1, (DC, DS, DT), 30, (), ())]
    [True, False, None]
""", dict(globals()))

    def test_policyparts(self):
        self.shows(PATH_TEXT + """
    >>> [limits_of(EQ), numbers_along((-1, -1, 1), (EP, EQ, ET)), numbers_along((2, 0, -1), (EP, EQ, ET))]
    [(3, -1, -1), ((-1, -1, 1), (-1, -1, 0), (3, -1, 0)), ((2, 0, -1), (1, 0, -1), (0, 0, -1))]
""", dict(globals(), limits_of=numbers_of))

    def test_policyrows(self):
        self.shows(PATH_TEXT + """
    >>> [words_from((-1, -1, -1), EQ, False, "any"), words_from((-1, -1, 0), EQ, False, "p"), expected_from((-1, -1, -1), EQ, "p"), expected_from((-1, 0, -1), EQ, "p")]
    [('any', 'p'), (), ('r',), ()]
    >>> [policy_rows((-1, -1, -1), (EP, EQ, ET)), is_policy_row((-1, -1, -1), (EP, EQ, ET), ("p", "p", "q")), origin_of(("any", "q", "r"))]
    [[('p', 'p', 'r'), ('q', 'q', 'q')], False, 'q']
""", dict(globals()))

    def test_policysteps(self):
        self.shows(PATH_TEXT + """
    >>> ES = policy_entered(policy_start((-1, -1, -1)), EP, False)
    >>> [ES, policy_passed(policy_entered(policy_passed(ES, EP), EQ, False), EQ)]
    [((('p', 'p'), ('q', 'q')), (-1, -1, -1)), ((('p', 'r'), ('q', 'q')), (3, -1, -1))]
    >>> [policies_let((-1, -1, -1), (EP, EQ, ET), ("any",)), policies_let((-1, -1, -1), (EP, EQ, ET), ("q", "z")), policies_let((2, -1, 1), (EP, EQ, ET), ("any",))]
    [('let', ('p', 'q')), ('let', ('q',)), ('bar', 2)]
""", dict(globals()))

    def test_policypapers(self):
        self.shows(PATH_TEXT + """
    >>> [held_row((-1, -1, -1), (EP, EQ, ET), "p"), held_row((-1, -1, -1), (EP, EQ, ET), "r"), lost_sets((-1, -1, -1), (EP, EQ, ET), "p")]
    [('p', 'p', 'r'), None, None]
    >>> [shows_lost((-1, -1, -1), (EP, EQ, ET), "r", lost_sets((-1, -1, -1), (EP, EQ, ET), "r")), shows_lost((-1, -1, -1), (EP, EQ, ET), "r", ((("any", "any"),), (), ()))]
    [True, False]
""", dict(globals()))

    def test_policyorder(self):
        self.shows("""
    >>> [policy_laxer(((("any", "any"),), (2, -1, 0)), ((("p", "p"),), (1, 3, 0))), policy_laxer(((("any", "any"),), (2, -1, 0)), ((("p", "q"),), (1, 3, 0)))]
    [True, False]
""", dict(globals()))

    def test_policyleads(self):
        self.shows(PATH_TEXT + """
    >>> [led_on(policy_start((-1, -1, -1)), (EP, EQ)), policy_leads((-1, -1, -1), (EP, EQ, ET))]
    [((('p', 'r'), ('q', 'q')), (3, -1, -1)), (('p', 'r'), ('q', 'q'))]
""", dict(globals()))
