"""What else could be asked: [96]."""

import time

from chainpapers.answers import answered
from chainpapers.askings import least_most, policies_held, purposes_let, uses_let
from chainpapers.errors import InvalidQuestion, InvalidStore
from chainpapers.sealing import sealed_certificate
from tests.bounds import bound_question, bound_store
from tests.chains import part
from tests.routes import AWAY, Route
from tests.support import Case
from tests.test_treepapers import head, scene
from tests.test_walkstates import NO_QUESTIONS, NO_STORES
from tests.things import with_item
from tests.worlds import worlds

PURPOSES = ("call", "serve", "sign", "stamp")
USES = ("agree", "certs", "lists", "sign")


def has_path(store, question):
    return answered(store, question)[0] == "path"


def told_policies(store):
    """All policies in "policies" and "mappings" of certificates of a store."""
    words = {word for one in store[0] for word in part(one, "policies") or ()}
    words |= {word for one in store[0] for pair in part(one, "mappings") or () for word in pair}
    return sorted(words - {"any"})


def told_held(store, question):
    settings = question[6][:2] + (0,) + question[6][3:]
    asking = with_item(question, 6, settings)
    return tuple(word for word in told_policies(store) if has_path(store, with_item(asking, 5, (word,))))


class Askings(Case):
    def test_purposes_and_uses(self):
        lots = set()
        for store, question in worlds(300):
            for function, at, words in ((purposes_let, 3, PURPOSES), (uses_let, 2, USES)):
                told = tuple(word for word in words if has_path(store, with_item(question, at, (word,))))
                self.assertEqual(self.keeps(function, store, question), told)
                lots.add((at, len(told)))
        self.assertLessEqual({(3, 0), (3, 1), (3, 4), (2, 0), (2, 1), (2, 2), (2, 4)}, lots)

    def test_each_by_itself(self):
        """What the question asks for besides is no matter: only the one word is asked."""
        for word in PURPOSES:
            route = Route(3)
            route.parts[1]["purposes"] = (word,)
            route.purposes = PURPOSES
            self.assertEqual(purposes_let(*route.asked()[:2]), (word,))
            route.parts[2]["purposes"] = ("any",)
            self.assertEqual(purposes_let(*route.asked()[:2]), (word,))
            route.parts[0]["purposes"] = ()
            self.assertEqual(purposes_let(*route.asked()[:2]), ())
        for word in USES:
            route = Route(3)
            route.parts[2]["uses"] = (word,)
            route.uses = USES
            self.assertEqual(uses_let(*route.asked()[:2]), (word,))
            route.parts[1]["uses"] = ("certs",)
            self.assertEqual(uses_let(*route.asked()[:2]), (word,))
            route.parts[1]["uses"] = ("agree",)
            self.assertEqual(uses_let(*route.asked()[:2]), ())
        self.assertEqual([purposes_let(*Route(2).asked()[:2]), uses_let(*Route(2).asked()[:2])], [PURPOSES, USES])

    def test_two_ways(self):
        """Of two ways one lets one purpose, the other one two others."""
        ways = [head(1, "r", "a", purposes=("call",)), head(2, "r", "a", purposes=("serve", "stamp")), head(3, "a", "b", uses=("certs", "sign"))]
        store, question, (_, _, last, _) = scene(ways)
        self.assertEqual(purposes_let(store, with_item(question, 0, last)), ("call", "serve", "stamp"))
        self.assertEqual(uses_let(store, with_item(question, 0, last)), ("certs", "sign"))
        self.assertEqual(purposes_let(store, question), ())

    def test_policies(self):
        lots = set()
        for store, question in worlds(400):
            told = told_held(store, question)
            self.assertEqual(self.keeps(policies_held, store, question), told, (store, question))
            lots.add((len(told), len(told_policies(store))))
        self.assertLessEqual({(0, 0), (0, 3), (1, 3), (2, 3), (3, 3)}, lots)

    def test_policies_by_hand(self):
        for parts, told in (
                (({"policies": ("p", "q")}, {"policies": ("q", "z")}), ("q",)), (({"policies": ("p",)}, {"policies": ("any",)}), ("p",)),
                (({"policies": ("any",)}, {"policies": ("any",)}), ("x",)), (({"policies": ("any",)}, {"policies": ("any", "p")}), ("p", "x")),
                (({"policies": ("p",), "mappings": (("p", "q"),)}, {"policies": ("q",)}), ("p",)),
                (({"policies": ("any",), "mappings": (("p", "q"),)}, {"policies": ("q",)}), ("p", "q")), (({"policies": ("p",)}, {}), ()),
                (({"policies": ("p",), "policylimits": (-1, 0), "mappings": (("p", "q"),)}, {"policies": ("q",)}), ("p",)), (({}, {}), ())):
            route = Route(2)
            # A certificate that fits nowhere tells a policy, too.
            route.more = (AWAY, sealed_certificate((998, ("zz",), ("zz",), 0, 0, 0, 900, (("policies", ("x",)),), 0)))
            route.parts = [{"basic": (True, -1), **one} for one in parts]
            store, question, _, _ = route.asked()
            self.assertEqual(told_held(store, question), told, parts)
            for wanted in (("any",), ("nothing",), ("p", "q")):
                for settings in (("no", 0, -1, -1, -1), ("no", 0, 5, -1, -1), ("no", 0, 0, -1, -1)):
                    asked = with_item(with_item(question, 5, wanted), 6, settings)
                    self.assertEqual(policies_held(store, asked), told)

    def test_least_most(self):
        lots = set()
        for store, question in worlds(300):
            lets = [most for most in range(1, 9) if has_path(store, with_item(question, 7, most))]
            self.assertEqual(self.keeps(least_most, store, question), lets[0] if lets else None)
            lots.add(lets[0] if lets else None)
        self.assertLessEqual({None, 1, 2, 3}, lots)
        for many in range(1, 9):
            for most in (1, many, 8):
                route = Route(many)
                route.most = most
                self.assertEqual(least_most(*route.asked()[:2]), many)
        store, question, _, _ = Route(9).asked()
        self.assertIsNone(least_most(store, question))

    def test_bound(self):
        store = bound_store()
        begin = time.process_time()
        question = bound_question(store, "no", True)
        self.assertEqual([uses_let(store, question), purposes_let(store, question)], [USES, PURPOSES])
        self.assertEqual(least_most(store, question), 6)
        self.assertEqual(policies_held(store, question), tuple(f"p{at}" for at in range(6)))
        question = bound_question(store)
        self.assertEqual([uses_let(store, question), least_most(store, question), policies_held(store, question)], [(), None, ()])
        self.assertLess(time.process_time() - begin, 40)

    def test_errors(self):
        store, question, _, _ = Route(2).asked()
        for function in (purposes_let, uses_let, policies_held, least_most):
            self.checks(function, (store, question), [(NO_STORES, InvalidStore), (NO_QUESTIONS, InvalidQuestion)])
