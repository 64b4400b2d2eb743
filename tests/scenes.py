"""Stores, questions and states in which a certificate is entered, passed or ended at, and what spoils each of these."""

from chainpapers.regions import whole_region
from chainpapers.sealing import sealed_certificate
from tests.lists import made

ROOT = ("r",)
NOTHING = ((), (), (), ())
ANY_PAIR = ("any", "any")
OPEN = (-1, -1, -1)
OTHER_TARGET = sealed_certificate((999, ("zz",), ("zz",), 0, 0, 0, 0, (), 0))


class Scene:
    """A certificate in a store, and a state that enters, passes and ends at it; all of it may be changed."""

    def __init__(self, is_target=False, itself=False):
        self.is_target = is_target
        self.issuer, self.subject, self.key, self.sealer = ROOT, ROOT if itself else ("r", "a"), 11, 5
        self.span, self.is_sealed = (0, 900), True
        self.parts = {"basic": (True, -1), "policies": ("p",)}
        self.lists, self.sealers = (), ((ROOT, 5),)
        self.time, self.uses, self.purposes, self.names, self.wanted = 50, (), (), (), ("any",)
        self.states, self.grace = "no", 0
        self.left, self.region = -1, whole_region()
        self.name, self.own_key = ROOT, 5
        self.kept, self.numbers = (ANY_PAIR,), OPEN

    def certificate(self):
        parts = tuple(sorted(self.parts.items()))
        found = sealed_certificate((7, self.issuer, self.subject, self.key, self.sealer) + self.span + (parts, 0))
        return found if self.is_sealed else found[:8] + ((found[8] + 1) % 2 ** 32,)

    def store(self):
        return tuple(sorted((self.certificate(), OTHER_TARGET))), tuple(sorted(self.lists)), ()

    def index(self):
        return self.store()[0].index(self.certificate())

    def question(self):
        target = self.index() if self.is_target else self.store()[0].index(OTHER_TARGET)
        settings = (self.states, self.grace, -1, -1, -1)
        return (target, self.time, self.uses, self.purposes, self.names, self.wanted, settings, 8, self.sealers)

    def state(self):
        return self.name, self.own_key, self.left, self.region, (self.kept, self.numbers)

    def asked(self):
        return self.store(), self.question(), self.state(), self.index()


def spoil_issuer(scene):
    scene.name = ("q",)


def spoil_key(scene):
    scene.own_key = 6


def spoil_seal(scene):
    scene.is_sealed = False


def spoil_time(scene):
    scene.span = (51, 900) if scene.time == 50 else scene.span


def spoil_by_list(scene):
    scene.states = "may"
    scene.lists = (made(1, -1, ((ROOT, 7, 30, "key"),)),)


def spoil_by_no_list(scene):
    scene.states = "must"


def spoil_odd(scene):
    scene.parts["odd"] = (True, "w")


def spoil_name(scene):
    scene.region = NOTHING


def spoil_purpose(scene):
    scene.purposes = ("call", "sign")
    scene.parts["purposes"] = ("call",)


def spoil_policy(scene):
    scene.kept, scene.numbers = (("z", "z"),), (0, -1, -1)


ENTERING = {"issuer": spoil_issuer, "key": spoil_key, "seal": spoil_seal, "time": spoil_time, "withdrawn": spoil_by_list,
            "unknown": spoil_by_no_list, "odd": spoil_odd, "name": spoil_name, "purpose": spoil_purpose,
            "policy": spoil_policy}


def spoil_head(scene):
    scene.parts.pop("basic", None)


def spoil_uses(scene):
    scene.parts["uses"] = ("agree", "sign")


def spoil_depth(scene):
    scene.left = 0


PASSING = {"head": spoil_head, "uses": spoil_uses, "depth": spoil_depth}


def spoil_use(scene):
    scene.uses = ("agree", "lists")
    scene.parts["uses"] = ("agree",)


def spoil_wanted(scene):
    scene.names = (("house", ("h",)), ("number", 3))
    scene.parts["names"] = (("house", ("h",)),)


def spoil_policies(scene):
    scene.wanted, scene.numbers = ("z",), (1, -1, -1)
    scene.kept = (("p", "p"),)


ENDING = {"use": spoil_use, "wanted": spoil_wanted, "policies": spoil_policies}
