"""The states of certificates: [25], [73]; their papers: [74], and what [3] says of both."""

import itertools
import random

from chainpapers.withdrawal import state_of, state_word
from chainpapers.withdrawalpapers import takes_state
from tests.lists import OTHER, REASONS, ROOT, SEALERS, certificate_of, made, told_entries, told_newest, told_shows, told_state
from tests.lists import told_views, told_withdrawn, worlds
from tests.support import ANY_VALUES, Case, spoiled
from tests.test_views import ASKED, WRONG, lists_of

CERTIFICATE = certificate_of()
KEYS, OTHERS = ("all", False, ("key",)), ("all", False, ("ceased", "changed", "head", "hold", "replaced", "rights"))


def entry(when=30, reason="key", serial=7, issuer=ROOT):
    return (issuer, serial, when, reason)


def told_takes(lists, newest, certificate, time, value):
    """Whether a value that has the form of a paper says the state rightly, in the document's words."""
    state, missing = told_state(lists, newest, certificate, time)
    if value[0] != state:
        return False
    if state == "withdrawn":
        return value in told_withdrawn(lists, newest, certificate, time)
    if state == "unknown":
        return value[1] == missing
    return all(view in newest and told_shows(lists, view, reason) for view, reason in zip(value[1], REASONS))


def possible_papers(source, lists, views):
    """Values that have the form of papers, true or not."""
    found = [("unknown", chosen) for many in (0, 1, 3, 4, 6, 7) for chosen in itertools.combinations(REASONS, many)]
    for view in views:
        own = told_entries(lists, view) + lists[view[0]][7] + lists[view[1]][7]
        found += [("withdrawn",) + view + (one,) for one in own]
        found += [("withdrawn", view[1], view[0], one) for one in own]
        found.append(("good", (view,) * 7))
    found += [("good", tuple(source.choice(views) for _ in REASONS)) for _ in range(20) if views]
    return found


class States(Case):
    def state(self, *own, time=50, certificate=CERTIFICATE, grace=0):
        lists = lists_of(*own)
        paper = self.keeps(state_of, lists, SEALERS, certificate, time, grace)
        self.assertEqual(self.keeps(state_word, lists, SEALERS, certificate, time, grace), paper[0])
        self.assertIs(takes_state(lists, SEALERS, certificate, time, grace, paper), True)
        return paper

    def test_at_random(self):
        seen = {}
        for world in worlds(700):
            newest = told_newest(world[0], told_views(*world))
            state, missing = told_state(world[0], newest, world[2], world[3])
            paper = state_of(*world)
            self.assertEqual((state_word(*world), paper[0]), (state, state))
            self.assertIs(told_takes(world[0], newest, world[2], world[3], paper), True)
            self.assertIs(takes_state(*world, paper), True)
            if state == "unknown":
                self.assertEqual(paper, ("unknown", missing))
            seen[state] = seen.get(state, 0) + 1
        self.assertGreater(min(seen.values()), 50)
        self.assertEqual(len(seen), 3)

    def test_withdrawn_from_its_time_on(self):
        own = made(1, -1, (entry(30),))
        self.assertEqual(self.state(own, time=29)[0], "good")
        self.assertEqual(self.state(own, time=30), ("withdrawn", 0, -1, entry(30)))
        self.assertEqual(self.state(own, time=100)[0], "withdrawn")
        self.assertEqual(self.state(own, time=101), ("unknown", REASONS))
        self.assertEqual(self.state(own, time=101, grace=1)[0], "withdrawn")
        self.assertEqual(self.state(made(1, -1, (entry(0, "hold"),)), time=0)[0], "withdrawn")

    def test_entries_of_this_certificate_alone(self):
        others = ("all", True, ())
        self.assertEqual(self.state(made(1, -1, (entry(serial=6), entry(serial=8))))[0], "good")
        self.assertEqual(self.state(made(1, -1, (entry(issuer=OTHER),), others))[0], "good")
        self.assertEqual(self.state(made(1, -1, (entry(), entry(issuer=OTHER)), others))[0], "withdrawn")
        named = certificate_of(parts={"lists": (OTHER,)})
        self.assertEqual(self.state(made(1, -1, (entry(), entry(issuer=OTHER)), others, issuer=OTHER), certificate=named)[3], entry())

    def test_newest_views_alone(self):
        self.assertEqual(self.state(made(1, -1, (entry(),)), made(2))[0], "good")
        self.assertEqual(self.state(made(1), made(2, -1, (entry(),)))[0], "withdrawn")
        self.assertEqual(self.state(made(1), made(1, -1, (entry(),)))[0], "withdrawn")
        self.assertEqual(self.state(made(1, -1, (entry(),)), made(2, 1, (entry(40, "back"),)))[0], "good")
        self.assertEqual(self.state(made(1, -1, (entry(),)), made(2, 1, (entry(60),)))[0], "good")
        self.assertEqual(self.state(made(1), made(2, 0, (entry(),)))[:3], ("withdrawn", 0, 1))
        self.assertEqual(self.state(made(1), made(2, 0, (entry(),)), made(3))[0], "good")

    def test_reasons_are_spread_over_scopes(self):
        keys, others = made(scope=KEYS), made(scope=OTHERS)
        self.assertEqual(self.state(keys), ("unknown", OTHERS[2]))
        self.assertEqual(self.state(others), ("unknown", ("key",)))
        paper = self.state(keys, others)
        lists = lists_of(keys, others)
        views = {"key": (lists.index(keys), -1)}
        self.assertEqual(paper, ("good", tuple(views.get(reason, (lists.index(others), -1)) for reason in REASONS)))
        self.assertEqual(self.state(made())[1], ((0, -1),) * 7)
        withdrawn = made(scope=KEYS, entries=(entry(),))
        self.assertEqual(self.state(withdrawn)[0], "withdrawn")
        self.assertEqual(self.state(withdrawn, made())[0], "withdrawn")
        self.assertEqual(self.state(made(scope=("heads", False, ()))), ("unknown", REASONS))
        self.assertEqual(self.state(made(scope=("users", False, ())))[0], "good")

    def test_no_lists(self):
        self.assertEqual(self.state(), ("unknown", REASONS))
        self.assertEqual(self.state(made(sealer=9)), ("unknown", REASONS))

    def test_errors(self):
        for function in (state_of, state_word):
            self.checks(function, ASKED, WRONG)


class Papers(Case):
    def test_each_possible_paper(self):
        seen = {}
        for seed, world in enumerate(worlds(400)):
            lists, _, certificate, time, _ = world
            views = told_views(*world)
            newest = told_newest(lists, views)
            for value in possible_papers(random.Random(seed), lists, views):
                is_one = told_takes(lists, newest, certificate, time, value)
                self.assertIs(takes_state(*world, value), is_one, (world, value))
                seen[(value[0], is_one)] = seen.get((value[0], is_one), 0) + 1
        self.assertEqual(len(seen), 6)
        self.assertGreater(min(seen.values()), 40)

    def test_any_view_with_the_reason(self):
        lists = lists_of(made(), made(span=(0, 90)), made(scope=KEYS))
        keys = (lists.index(made(scope=KEYS)), -1)
        whole = [(at, -1) for at in range(3) if at != keys[0]]
        for at, reason in enumerate(REASONS):
            for views in itertools.product(whole, repeat=2):
                paper = ("good", (views[0],) * at + (keys,) + (views[1],) * (6 - at))
                self.assertIs(self.keeps(takes_state, lists, SEALERS, CERTIFICATE, 50, 0, paper), reason == "key")
        self.assertIs(takes_state(lists, SEALERS, CERTIFICATE, 50, 0, ("good", tuple(whole * 3) + (whole[0],))), True)

    def test_spoilt_at_each_place(self):
        one, zero = entry(1, serial=1), (entry(0, serial=0),)
        for own, certificate in (((made(1, -1, (one,)), made(2, 1, (one,))), certificate_of(1)),
                                 ((made(1, -1, zero),), certificate_of(0)), ((made(), made(2, 0)), CERTIFICATE),
                                 ((made(scope=KEYS),), CERTIFICATE)):
            lists = lists_of(*own)
            paper = state_of(lists, SEALERS, certificate, 50, 0)
            longer = [paper + (0,), paper[:-1], paper[1:], (paper,), (paper[0] + "s",) + paper[1:]]
            if isinstance(paper[1], tuple):
                longer += [(paper[0], paper[1] + paper[1][-1:]), (paper[0], paper[1][1:]), (paper[0], paper[1][:-1])]
            for value in list(spoiled(paper)) + longer + ANY_VALUES:
                self.assertIs(takes_state(lists, SEALERS, certificate, 50, 0, value), False, value)

    def test_papers_of_other_states(self):
        lists = lists_of(made(1, -1, (entry(30),)))
        good, withdrawn, unknown = ("good", ((0, -1),) * 7), ("withdrawn", 0, -1, entry(30)), ("unknown", REASONS)
        for time, paper in ((29, good), (30, withdrawn), (101, unknown)):
            for value in (good, withdrawn, unknown, ("unknown", ())):
                self.assertIs(takes_state(lists, SEALERS, CERTIFICATE, time, 0, value), value == paper)

    def test_errors(self):
        self.checks(takes_state, ASKED + (None,), WRONG + [None])
