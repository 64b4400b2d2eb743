"""Chains that hang together, and what bars them: [33], [41], [97]."""

import time

from chainpapers.diagnoses import flawed_chains, hanging_chains, least_flawed
from chainpapers.errors import InvalidQuestion, InvalidStore
from chainpapers.hangingchains import does_hang
from chainpapers.pathlists import paths_of
from chainpapers.plainly import plain_bars
from tests.bounds import bound_question, bound_store
from tests.plain import told_plain
from tests.routes import REASON_WORDS, SPOILERS, Route, reasons_at
from tests.support import Case
from tests.test_treepapers import head, scene
from tests.test_walkstates import NO_QUESTIONS, NO_STORES
from tests.things import with_item
from tests.worlds import all_hanging, worlds


class Diagnoses(Case):
    def test_worlds(self):
        lots, flaws = set(), set()
        for store, question in worlds(250):
            told = all_hanging(store, question)
            self.assertEqual(self.keeps(hanging_chains, store, question), told)
            self.assertTrue(all(does_hang(store, question, chain) for chain in told))
            flawed = [(chain, told_plain(store, question, *chain)) for chain in told if len(chain[1]) < 6]
            found = self.keeps(flawed_chains, store, question)
            self.assertEqual([pair for pair in found if len(pair[0][1]) < 6], flawed)
            self.assertEqual([chain for chain, _ in found], told)
            self.assertEqual([chain for chain, bars in found if not bars], paths_of(store, question))
            fewest = min((len(bars) for _, bars in found), default=None)
            least = self.keeps(least_flawed, store, question)
            self.assertEqual(least, next((pair for pair in found if len(pair[1]) == fewest), None))
            lots.add(min(len(told), 3))
            flaws.add(None if fewest is None else min(fewest, 3))
        self.assertEqual((lots, flaws), ({0, 1, 2, 3}, {None, 0, 1, 2, 3}))

    def test_one_chain(self):
        for many in (1, 3, 8):
            for place in range(many):
                for reason in reasons_at(Route(many), place):
                    route = Route(many)
                    SPOILERS[reason](route, place)
                    store, question, anchor, path = route.asked()
                    if reason in ("issuer", "key"):
                        told = []
                    else:
                        told = [((anchor, path), plain_bars(store, question, anchor, path))]
                        self.assertEqual(told[0][1][0], (place, REASON_WORDS.index(reason)))
                    self.assertEqual(flawed_chains(store, question), told)
                    self.assertEqual(least_flawed(store, question), told[0] if told else None)

    def test_several_with_as_few(self):
        """The first one in order with the fewest, and not the one that gets furthest."""
        ways = [head(1, "r", "a", odd=(True, "w"), purposes=()), head(2, "r", "a", odd=(True, "w")), head(3, "r", "a", purposes=()),
                head(4, "a", "b"), head(5, "a", "a")]
        store, question, (_, two, three, last, ring, _) = scene(ways)
        question = with_item(with_item(question, 0, last), 3, ("call",))
        self.assertEqual(least_flawed(store, question), ((0, (two, last)), ((0, 6),)))
        self.assertEqual([len(bars) for _, bars in flawed_chains(store, question)], [2, 1, 1, 2, 1, 1])
        self.assertEqual(least_flawed(store, with_item(question, 1, 950))[0], (0, (two, last)))
        self.assertEqual(least_flawed(store, with_item(question, 3, ())), ((0, (three, last)), ()))
        self.assertEqual([chain[1] for chain in hanging_chains(store, question)][3:], [(one, ring, last) for one in (0, 1, 2)])

    def test_several_flaws(self):
        route = Route(3)
        for reason in ("seal", "time", "odd", "name", "purpose", "head", "uses", "use", "wanted"):
            for place in range(3):
                if reason in reasons_at(route, place):
                    SPOILERS[reason](route, place)
        store, question, anchor, path = route.asked()
        told = [(place, REASON_WORDS.index(reason)) for place in range(3) for reason in ("seal", "time", "odd", "name", "purpose")]
        told += [(place, REASON_WORDS.index(reason)) for place in (0, 1) for reason in ("head", "uses")]
        told += [(2, REASON_WORDS.index(reason)) for reason in ("use", "wanted")]
        self.assertEqual(least_flawed(store, question), ((anchor, path), tuple(sorted(told))))

    def test_most_and_anchors(self):
        for most in range(1, 9):
            route = Route(4)
            route.most = most
            store, question, anchor, path = route.asked()
            self.assertEqual(hanging_chains(store, question), [(anchor, path)] if most >= 4 else [])
            self.assertEqual(least_flawed(store, question), ((anchor, path), ()) if most >= 4 else None)
            self.assertEqual(hanging_chains(store[:2] + ((),), question), [])

    def test_bound(self):
        store = bound_store()
        for is_path in (True, False):
            question = bound_question(store, "must", is_path)
            begin = time.process_time()
            chains = hanging_chains(store, question)
            self.assertEqual(len(chains), 6 * 3 * 4 ** 4)
            found = flawed_chains(store, question)
            self.assertEqual([chain for chain, _ in found], chains)
            self.assertEqual(least_flawed(store, question)[1] == (), is_path)
            self.assertLess(time.process_time() - begin, 40)

    def test_errors(self):
        store, question, _, _ = Route(2).asked()
        for function in (hanging_chains, flawed_chains, least_flawed):
            self.checks(function, (store, question), [(NO_STORES, InvalidStore), (NO_QUESTIONS, InvalidQuestion)])
