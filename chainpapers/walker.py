"""Walks along all that fits, in which each move is made once, however many chains share it."""

from chainpapers.candidates import all_behind_anchors, all_behind_certificates
from chainpapers.certificates import is_head
from chainpapers.constraints import let_region
from chainpapers.depths import NOT_LET, left_behind
from chainpapers.findings import Findings
from chainpapers.policymoves import PolicyMoves
from chainpapers.policyorder import is_number_laxer
from chainpapers.policysteps import first_state
from chainpapers.regionmoves import RegionMoves
from chainpapers.rules import can_certify, has_purposes, has_uses, has_wanted_names, is_lasting, is_odd_must


class Walker:
    """Walks for one question after another, which differ neither in their store nor in their sealers.

    A spot is what a walk state knows besides its name and key: (left, number of the region, number of the policies).
    """

    def __init__(self, store, question):
        self.certificates = store[0]
        self.anchors = store[2]
        self.findings = Findings(store)
        self.regions = RegionMoves(store)
        self.policies = PolicyMoves(store)
        self.behind_anchors = all_behind_anchors(store)
        self.behind = all_behind_certificates(store)
        self.question = question
        self.reasons = {}

    def ask(self, question):
        """Walk for another question from now on."""
        self.question = question
        self.reasons = {}

    def fitting(self, anchor, indices):
        """Return the ascending tuple of the indices of all that fits behind some indices from an anchor."""
        return self.behind[indices[-1]] if indices else self.behind_anchors[anchor]

    def begin(self, anchor):
        """Return the spot at which a walk from an anchor begins."""
        permitted, excluded, depth = self.anchors[anchor][2:]
        region = self.regions.number_of(let_region(permitted, excluded))
        return (depth, region, self.policies.number_of(first_state(self.question[6][2:])))

    def bars_of(self, index):
        """Return the first reasons, or None, of a certificate itself: ahead of names, behind them, and to pass it."""
        if index not in self.reasons:
            certificate = self.certificates[index]
            behind_names = None if has_purposes(self.question, certificate) else "purpose"
            self.reasons[index] = (self.bar_ahead_of_names(index), behind_names, self.bar_to_pass(index))
        return self.reasons[index]

    def bar_ahead_of_names(self, index):
        """Return the first reason ahead of the names that bars a certificate where it fits, or None."""
        certificate = self.certificates[index]
        if not self.findings.is_sealed(index):
            return "seal"
        if not is_lasting(self.question, certificate):
            return "time"
        # It fits behind no other name and key than these.
        ahead = (certificate[1], certificate[4])
        withdrawal = self.findings.withdrawal_bar(self.question, ahead, index)
        if withdrawal is not None:
            return withdrawal
        return "odd" if is_odd_must(certificate) else None

    def bar_to_pass(self, index):
        """Return the first reason, but for depths, that bars a certificate from being passed, or None."""
        certificate = self.certificates[index]
        if not is_head(certificate):
            return "head"
        return None if can_certify(certificate) else "uses"

    def step(self, spot, index, is_target):
        """Return ("on", spot behind), ("let", policies let) or ("barred", reason) at a certificate that fits."""
        left, region, policy = spot
        ahead_of_names, behind_names, to_pass = self.bars_of(index)
        if ahead_of_names is not None:
            return ("barred", ahead_of_names)
        if not self.regions.names(region, index, is_target):
            return ("barred", "name")
        if behind_names is not None:
            return ("barred", behind_names)
        entered = self.policies.entering(policy, index, is_target)
        if entered is None:
            return ("barred", "policy")
        if is_target:
            return self.end(entered, index)
        if to_pass is not None:
            return ("barred", to_pass)
        left = left_behind(left, self.certificates[index])
        if left == NOT_LET:
            return ("barred", "depth")
        return ("on", (left, self.regions.passing(region, index), self.policies.passing(entered, index)))

    def end(self, entered, index):
        """Return ("let", policies let) or ("barred", reason) at the target, the policies having entered it."""
        certificate = self.certificates[index]
        if not has_uses(self.question, certificate):
            return ("barred", "use")
        if not has_wanted_names(self.question, certificate):
            return ("barred", "wanted")
        let = self.policies.ending(entered, index, self.question[5])
        return ("barred", "policies") if let is None else ("let", let)

    def is_laxer(self, spot, other):
        """Return whether a spot, behind the same name and key, is laxer than another one."""
        if not is_number_laxer(spot[0], other[0]) or not self.policies.is_laxer(spot[2], other[2]):
            return False
        return self.regions.is_laxer(spot[1], other[1])
