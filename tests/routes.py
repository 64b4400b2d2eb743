"""A path of certificates from an anchor, with all that may be asked of it, and what spoils it at one of its places."""

from chainpapers.sealing import sealed_certificate
from chainpapers.wordlists import REASONS
from tests.lists import made

ROOT = ("r",)
ROOT_KEY = 5
REASON_WORDS = ("issuer", "key", "seal", "time", "withdrawn", "unknown", "odd", "name", "purpose", "policy", "head", "uses",
                "depth", "use", "wanted", "policies")
BAD_TITLE = ("house", ("bad",))
AWAY = sealed_certificate((999, ("zz",), ("zz",), 0, 0, 0, 900, (), 0))


class Route:
    """A path of many certificates that is let; all of it may be changed ahead of `asked`."""

    def __init__(self, many=3, selfs=()):
        self.many = many
        self.names = [ROOT]
        for place in range(many):
            self.names.append(self.names[-1] if place in selfs else ("r", f"n{place}"))
        self.keys = [ROOT_KEY] + [10 + place for place in range(many)]
        self.issuers = self.names[:-1]
        self.sealers = self.keys[:-1]
        self.spans = [(0, 900)] * many
        self.unsealed = []
        self.parts = [{"basic": (True, -1), "policies": ("p",)} for _ in range(many)]
        self.withdrawn, self.listed = [], list(range(many))
        self.permitted, self.excluded, self.depth = (), (BAD_TITLE,), -1
        self.uses, self.purposes, self.wanted_names, self.wanted = (), (), (), ("any",)
        self.states, self.numbers, self.most = "no", (-1, -1, -1), 8
        self.more = (AWAY,)

    def certificate(self, place):
        parts = tuple(sorted(self.parts[place].items()))
        since, until = self.spans[place]
        found = sealed_certificate((place + 1, self.issuers[place], self.names[place + 1], self.keys[place + 1],
                                    self.sealers[place], since, until, parts, 0))
        return found[:8] + ((found[8] + 1) % 2 ** 32,) if place in self.unsealed else found

    def list_at(self, place):
        entries = ((self.issuers[place], place + 1, 30, "key"),) if place in self.withdrawn else ()
        scope = ("all", False, ()) if place in self.listed else ("all", False, REASONS[1:5])
        return made(1, -1, entries, scope, (0, 900), self.issuers[place], self.keys[place])

    def asked(self):
        """The store, the question, the anchor and the path."""
        certificates = [self.certificate(place) for place in range(self.many)]
        store = (tuple(sorted(set(certificates + list(self.more)))),
                 tuple(sorted(set(self.list_at(place) for place in range(self.many)))),
                 ((ROOT, ROOT_KEY, self.permitted, self.excluded, self.depth),))
        path = tuple(store[0].index(one) for one in certificates)
        question = (path[-1], 50, self.uses, self.purposes, self.wanted_names, self.wanted,
                    (self.states, 0) + self.numbers, self.most, ())
        return store, question, 0, path


def spoil_issuer(route, place):
    route.issuers[place] = ("q",)


def spoil_key(route, place):
    route.sealers[place] = 99


def spoil_seal(route, place):
    route.unsealed.append(place)


def spoil_time(route, place):
    route.spans[place] = (51, 900)


def spoil_by_list(route, place):
    route.states = "must" if route.states == "must" else "may"
    route.withdrawn.append(place)


def spoil_by_no_list(route, place):
    route.states = "must"
    route.listed.remove(place)


def spoil_odd(route, place):
    route.parts[place]["odd"] = (True, "w")


def spoil_name(route, place):
    route.parts[place]["names"] = (BAD_TITLE,)


def spoil_purpose(route, place):
    route.purposes = ("call",)
    route.parts[place]["purposes"] = ("sign",)


def spoil_policy(route, place):
    asked = sum(route.names[at] != route.names[at + 1] for at in range(place))
    route.numbers = (asked,) + route.numbers[1:]
    route.parts[place]["policies"] = ("z",)
    if place == 0:
        # A word that nothing leads to from "any" is none at the first place.
        del route.parts[place]["policies"]


def spoil_head(route, place):
    route.parts[place].pop("basic")


def spoil_uses(route, place):
    route.parts[place]["uses"] = ("agree", "lists", "sign")


def spoil_depth(route, place):
    ahead = max((at for at in range(place) if "basic" in route.parts[at]), default=None)
    if place == 0 or ahead != place - 1:
        route.depth = sum(route.names[at] != route.names[at + 1] for at in range(place))
    else:
        route.parts[ahead]["basic"] = (True, 0)


def spoil_use(route, place):
    route.uses = ("agree", "lists")
    route.parts[place]["uses"] = ("agree",)


def spoil_wanted(route, place):
    route.wanted_names = (("house", ("h",)), ("number", 3))
    route.parts[place].setdefault("names", (("number", 3),))


def spoil_policies(route, place):
    route.wanted = ("w",)
    asked = sum(route.names[at] != route.names[at + 1] for at in range(place))
    route.numbers = (asked + 1,) + route.numbers[1:]


SPOILERS = {"issuer": spoil_issuer, "key": spoil_key, "seal": spoil_seal, "time": spoil_time, "withdrawn": spoil_by_list,
            "unknown": spoil_by_no_list, "odd": spoil_odd, "name": spoil_name, "purpose": spoil_purpose,
            "policy": spoil_policy, "head": spoil_head, "uses": spoil_uses, "depth": spoil_depth, "use": spoil_use,
            "wanted": spoil_wanted, "policies": spoil_policies}
AT_ALL = REASON_WORDS[:10]
ON_THE_WAY = ("head", "uses", "depth")
AT_LAST = ("use", "wanted", "policies")


def reasons_at(route, place):
    """The reasons that can bar a path at a place; self-issued ones on the way are asked neither for names nor depths."""
    if place == route.many - 1:
        return AT_ALL + AT_LAST
    is_self = route.names[place] == route.names[place + 1]
    return tuple(reason for reason in AT_ALL + ON_THE_WAY if not (is_self and reason in ("name", "depth")))


def rank(place, reason):
    return place, REASON_WORDS.index(reason)
