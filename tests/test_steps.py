"""Steps of walks: [28], [29], [77]."""

import itertools

from chainpapers.constraints import narrowed
from chainpapers.errors import InvalidNumber, InvalidQuestion, InvalidState, InvalidStore
from chainpapers.policysteps import policy_passed
from chainpapers.regions import region_of, whole_region
from chainpapers.steps import ended, entered, passed
from chainpapers.walkstates import is_walk_state
from tests.lists import REASONS, made
from tests.scenes import ENDING, ENTERING, NOTHING, OPEN, PASSING, ROOT, Scene
from tests.support import Case, odd_values
from tests.test_walkstates import NO_QUESTIONS, NO_STORES, NO_WALK_STATES

ALL_SCENES = [(is_target, itself) for is_target in (True, False) for itself in (True, False)]


class Steps(Case):
    def enters(self, scene):
        return self.keeps(entered, *scene.asked())

    def check_order(self, spoilers, function, scenes, but=()):
        """Each reason by itself, and two at once: the first one is told."""
        for is_target, itself in scenes:
            reasons = [reason for reason in spoilers if reason not in but]
            for reason in reasons:
                scene = Scene(is_target, itself)
                spoilers[reason](scene)
                self.assertEqual(self.keeps(function, *scene.asked()), ("barred", reason), (is_target, itself))
            for one, other in itertools.combinations(reasons, 2):
                if {one, other} != {"withdrawn", "unknown"}:
                    scene = Scene(is_target, itself)
                    spoilers[other](scene)
                    spoilers[one](scene)
                    self.assertEqual(function(*scene.asked()), ("barred", one), (one, other))

    def test_reasons_for_not_entering(self):
        self.check_order(ENTERING, entered, [scene for scene in ALL_SCENES if scene != (False, True)])
        self.check_order(ENTERING, entered, [(False, True)], ("name",))

    def test_reasons_for_not_passing(self):
        self.check_order(PASSING, passed, [(False, False)])
        self.check_order(PASSING, passed, [(False, True)], ("depth",))

    def test_reasons_for_not_ending(self):
        self.check_order(ENDING, ended, [(True, False), (True, True)])

    def test_entering_changes_the_policy_state_alone(self):
        for is_target, itself in ALL_SCENES:
            scene = Scene(is_target, itself)
            scene.kept, scene.left = (("any", "any"), ("o", "p"), ("o", "z")), 3
            state = self.enters(scene)
            self.assertEqual(state, ("on", scene.state()[:4] + (((("o", "p"), ("p", "p")), OPEN),)))
            self.assertIs(is_walk_state(state[1]), True)

    def test_whether_it_is_the_target_matters_to_policies(self):
        for is_target, kept in ((True, (("any", "any"), ("p", "p"))), (False, (("any", "any"), ("p", "p"), ("q", "q")))):
            scene = Scene(is_target)
            scene.parts.update({"policies": ("any", "p"), "mappings": (("q", "r"),)})
            self.assertEqual(self.enters(scene)[1][4], (kept, OPEN))
            scene.numbers, scene.subject = (-1, -1, 0), ROOT
            kept = (("p", "p"),) if is_target else kept
            self.assertEqual(self.enters(scene)[1][4], (kept, (-1, -1, 0)))

    def test_times(self):
        for time, told in ((9, ("barred", "time")), (10, "on"), (20, "on"), (21, ("barred", "time"))):
            scene = Scene()
            scene.span, scene.time = (10, 20), time
            self.assertIn(told, (self.enters(scene), self.enters(scene)[0]))

    def enters_with(self, states, *lists, **changed):
        scene = Scene()
        scene.states, scene.lists = states, lists
        for name, value in changed.items():
            setattr(scene, name, value)
        found = self.enters(scene)
        return found[0] if found[0] == "on" else found[1]

    def test_withdrawal(self):
        gone, good = made(1, -1, ((ROOT, 7, 30, "key"),)), made(1)
        some = made(scope=("all", False, REASONS[:1]))
        for lists, may, must in (((gone,), "withdrawn", "withdrawn"), ((good,), "on", "on"), ((), "on", "unknown"),
                                 ((some,), "on", "unknown"), ((gone, some), "withdrawn", "withdrawn")):
            self.assertEqual([self.enters_with(states, *lists) for states in ("no", "may", "must")], ["on", may, must])
        self.assertEqual(self.enters_with("must", gone, time=29), "on")
        self.assertEqual(self.enters_with("must", gone, time=30), "withdrawn")
        self.assertEqual([self.enters_with("may", gone, time=103, grace=grace) for grace in (2, 3)], ["on", "withdrawn"])
        self.assertEqual([self.enters_with("must", good, time=103, grace=grace) for grace in (2, 3)], ["unknown", "on"])

    def test_who_may_seal_lists(self):
        """The question's sealers, and the state's name and key, are asked."""
        gone = made(1, -1, ((ROOT, 7, 30, "key"),))
        other = made(1, -1, ((ROOT, 7, 30, "key"),), sealer=6)
        self.assertEqual(self.enters_with("may", gone, sealers=()), "withdrawn")
        self.assertEqual(self.enters_with("may", other, sealers=()), "on")
        self.assertEqual(self.enters_with("may", other, sealers=((ROOT, 6),)), "withdrawn")
        twelve = tuple(((f"n{at:02d}",), 0) for at in range(12))
        self.assertEqual(self.enters_with("may", gone, sealers=twelve), "withdrawn")

    def test_odd_parts(self):
        scene = Scene()
        scene.parts["odd"] = (False, "w")
        self.assertEqual(self.enters(scene)[0], "on")

    def test_names(self):
        held = {"house": ("house", ("h",)), "number": ("number", 3)}
        subtrees = (("house", ("h",)), ("name", ("r",)), ("number", 3, 3))
        for kind in ("house", "name", "number"):
            for is_target, itself in ALL_SCENES:
                scene = Scene(is_target, itself)
                scene.parts["names"] = tuple(held.values())
                scene.region = region_of(subtrees)
                self.assertEqual(self.enters(scene)[0], "on")
                scene.region = region_of(tuple(one for one in subtrees if one[0] != kind))
                told = "on" if itself and not is_target else "barred"
                self.assertEqual(self.enters(scene)[0], told, (kind, is_target, itself))

    def test_purposes(self):
        for asked, held, told in (((), (), "on"), (("call",), None, "on"), (("call",), ("any",), "on"), (("call",), (), "barred"),
                                  (("call", "sign"), ("call", "sign"), "on"), (("call", "sign"), ("sign",), "barred"),
                                  (("call", "sign"), ("any", "sign"), "on"), (("serve",), ("call", "sign", "stamp"), "barred")):
            scene = Scene()
            scene.purposes = asked
            if held is not None:
                scene.parts["purposes"] = held
            self.assertEqual(self.enters(scene)[0], told, (asked, held))

    def test_policy_is_asked_for_when_ask_is_0(self):
        for kept, ask, told in (((("z", "z"),), 0, "barred"), ((("z", "z"),), 1, "on"), ((("z", "z"),), -1, "on"), ((), 0, "barred"),
                                ((("z", "p"),), 0, "on"), ((("any", "any"),), 0, "on")):
            scene = Scene()
            scene.kept, scene.numbers = kept, (ask, -1, -1)
            self.assertEqual(self.enters(scene)[0], told, (kept, ask))

    def test_the_state_behind_passing(self):
        for itself, left, depth, behind in (
                (False, -1, -1, -1), (False, -1, 0, 0), (False, -1, 8, 8), (False, 1, -1, 0), (False, 8, -1, 7), (False, 3, 1, 1),
                (False, 3, 2, 2), (False, 3, 5, 2), (True, 0, -1, 0), (True, 0, 5, 0), (True, 3, -1, 3), (True, 3, 2, 2),
                (True, -1, 0, 0)):
            scene = Scene(False, itself)
            scene.left, scene.parts["basic"] = left, (True, depth)
            scene.parts.update({"mappings": (("p", "q"),), "policylimits": (2, 0), "anylimit": 3})
            scene.kept, scene.numbers = (("any", "any"), ("p", "p")), (1, 5, 0)
            kind, state = self.keeps(passed, *scene.asked())
            policy = policy_passed((scene.kept, scene.numbers), scene.certificate())
            self.assertEqual((kind, state), ("on", (scene.subject, 11, behind, whole_region(), policy)))
            self.assertIs(is_walk_state(state), True)

    def test_regions_behind_passing(self):
        subtrees = (("house", ("h",)), ("number", 3, 9))
        for permitted, excluded in itertools.product((None, subtrees), (None, subtrees[:1], (("name", ("r", "a")),))):
            for region in (whole_region(), NOTHING, region_of(subtrees)):
                scene = Scene()
                scene.region = region
                scene.parts.update({word: value for word, value in (("permitted", permitted), ("excluded", excluded)) if value})
                self.assertEqual(passed(*scene.asked())[1][3], narrowed(region, permitted or (), excluded or ()))

    def test_heads_and_uses(self):
        for basic, uses, told in (((True, -1), None, "on"), ((True, -1), ("certs",), "on"), ((False, -1), None, ("barred", "head")),
                                  ((True, -1), (), ("barred", "uses")), ((True, -1), ("agree", "lists", "sign"), ("barred", "uses")),
                                  ((False, -1), (), ("barred", "head"))):
            scene = Scene()
            scene.parts["basic"] = basic
            if uses is not None:
                scene.parts["uses"] = uses
            found = passed(*scene.asked())
            self.assertIn(told, (found, found[0]))

    def test_ending(self):
        scene = Scene(True)
        scene.uses, scene.names = ("agree", "sign"), (("house", ("h",)),)
        scene.parts.update({"uses": ("agree", "certs", "sign"), "names": (("house", ("h",)), ("number", 3))})
        scene.kept, scene.wanted = (("p", "q"), ("r", "s")), ("p", "q")
        self.assertEqual(self.keeps(ended, *scene.asked()), ("let", ("p",)))
        scene.wanted = ("any", "q")
        self.assertEqual(ended(*scene.asked()), ("let", ("p", "r")))
        scene.wanted = ("z",)
        self.assertEqual(ended(*scene.asked()), ("let", ()))
        for ask, told in ((0, "barred"), (1, "barred"), (2, "let"), (-1, "let")):
            scene.numbers = (ask, -1, -1)
            self.assertEqual(ended(*scene.asked())[0], told)
        scene.parts["policylimits"] = (0, -1)
        self.assertEqual(ended(*scene.asked()), ("barred", "policies"))

    def test_ending_asks_for_nothing_else(self):
        scene = Scene(True)
        scene.parts = {}
        scene.uses, scene.left, scene.region = ("agree", "certs", "lists", "sign"), 0, NOTHING
        self.assertEqual(ended(*scene.asked()), ("let", ("any",)))

    def test_errors(self):
        scene, target = Scene(), Scene(True)
        for function, asked in ((entered, scene.asked()), (passed, scene.asked()), (ended, target.asked())):
            self.checks(function, asked, [
                (NO_STORES, InvalidStore), (NO_QUESTIONS, InvalidQuestion), (NO_WALK_STATES, InvalidState),
                (odd_values(0, 1) + [-1, 2], InvalidNumber)])
        for function, asked in ((passed, target.asked()), (ended, scene.asked())):
            self.raises(InvalidNumber, function, *asked)
            self.raises(InvalidState, function, *asked[:2], None, asked[3])
