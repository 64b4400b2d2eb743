"""Plain bars of paths: each constraint looked at by itself, and but once for all paths that share it."""

from chainpapers.certificates import is_head, issues_itself
from chainpapers.constraints import is_let_by
from chainpapers.depths import depth_in
from chainpapers.findings import Findings
from chainpapers.policymoves import PolicyMoves
from chainpapers.policysteps import first_state
from chainpapers.rules import can_certify, has_purposes, has_uses, has_wanted_names, is_asked_for_names, is_lasting
from chainpapers.rules import is_odd_must, subtrees_told
from chainpapers.walkstates import titles_in
from chainpapers.wordlists import BAR_REASONS


class PlainRules:
    """Tells the plain bars of paths, for one store and one question.

    What is ahead of a place is told by an integer: an index for a certificate, one below 0 for an anchor.
    """

    def __init__(self, store, question):
        self.certificates = store[0]
        self.anchors = store[2]
        self.question = question
        self.findings = Findings(store)
        self.policies = PolicyMoves(store)
        self.own_reasons = {}
        self.pair_reasons = {}
        self.lettings = {}

    def anchor_of(self, ahead):
        """Return the anchor that is ahead of a path."""
        return self.anchors[-1 - ahead]

    def bars_along(self, anchor, path):
        """Return the plain bars of a path from an anchor."""
        found = self.policy_bars(path)
        aheads = [-1 - anchor] + list(path)
        deep = self.places_too_deep(anchor, path)
        for place in range(len(path)):
            index = path[place]
            reasons = self.reasons_alone(index) + self.reasons_behind(aheads[place], index)
            if self.is_name_barred(aheads[:place + 1], index):
                reasons = reasons + ["name"]
            if place in deep:
                reasons = reasons + ["depth"]
            found.extend([(place, BAR_REASONS.index(reason)) for reason in reasons])
        return tuple(sorted(found))

    def reasons_alone(self, index):
        """Return the list of the reasons that a certificate has by itself."""
        if index not in self.own_reasons:
            certificate = self.certificates[index]
            kept = [("seal", self.findings.is_sealed(index)), ("time", is_lasting(self.question, certificate)),
                    ("odd", not is_odd_must(certificate)), ("purpose", has_purposes(self.question, certificate))]
            if index == self.question[0]:
                kept.append(("use", has_uses(self.question, certificate)))
                kept.append(("wanted", has_wanted_names(self.question, certificate)))
            else:
                kept.append(("head", is_head(certificate)))
                kept.append(("uses", can_certify(certificate)))
            self.own_reasons[index] = [reason for reason, is_kept in kept if not is_kept]
        return self.own_reasons[index]

    def reasons_behind(self, ahead, index):
        """Return the list of the reasons that a certificate has behind the one just ahead, or behind the anchor."""
        if (ahead, index) not in self.pair_reasons:
            name, key = self.certificates[ahead][2:4] if ahead >= 0 else self.anchor_of(ahead)[:2]
            certificate = self.certificates[index]
            reasons = [] if certificate[1] == name else ["issuer"]
            if certificate[4] != key:
                reasons.append("key")
            withdrawal = self.findings.withdrawal_bar(self.question, (name, key), index)
            if withdrawal is not None:
                reasons.append(withdrawal)
            self.pair_reasons[(ahead, index)] = reasons
        return self.pair_reasons[(ahead, index)]

    def does_let(self, ahead, index):
        """Return whether the subtrees of what is somewhere ahead let all titles of a certificate."""
        if (ahead, index) not in self.lettings:
            subtrees = subtrees_told(self.certificates[ahead]) if ahead >= 0 else self.anchor_of(ahead)[2:4]
            let = [is_let_by(subtrees[0], subtrees[1], title) for title in titles_in(self.certificates[index])]
            self.lettings[(ahead, index)] = False not in let
        return self.lettings[(ahead, index)]

    def is_name_barred(self, aheads, index):
        """Return whether some title of a certificate matters, and is not let by one of all that are ahead."""
        if not is_asked_for_names(self.certificates[index], index == self.question[0]):
            return False
        for ahead in aheads:
            if not self.does_let(ahead, index):
                return True
        return False

    def places_too_deep(self, anchor, path):
        """Return the list of the places, but the last, that are too deep, as often as there is a depth ahead."""
        depths = [self.anchors[anchor][4]] + [depth_in(self.certificates[index]) for index in path]
        counted = [place for place in range(len(path) - 1) if not issues_itself(self.certificates[path[place]])]
        deep = []
        for place in counted:
            for at in range(place + 1):
                # The depth with this index in the list has the place one less, from behind which is counted.
                many = len([other for other in counted if at <= other <= place])
                if 0 <= depths[at] < many:
                    deep.append(place)
        return deep

    def policy_bars(self, path):
        """Return the list of the bar "policy", at the first place of it, or of "policies", or of neither."""
        state = self.policies.number_of(first_state(self.question[6][2:]))
        for place in range(len(path) - 1):
            state = self.policies.entering(state, path[place], False)
            if state is None:
                return [(place, BAR_REASONS.index("policy"))]
            state = self.policies.passing(state, path[place])
        last = len(path) - 1
        state = self.policies.entering(state, path[last], True)
        if state is None:
            return [(last, BAR_REASONS.index("policy"))]
        let = self.policies.ending(state, path[last], self.question[5])
        return [(last, BAR_REASONS.index("policies"))] if let is None else []
