"""What is found of single certificates of a store: seals, and states of withdrawal, each looked at once."""

from chainpapers.rules import bar_of_state
from chainpapers.sealing import is_certificate_sealed
from chainpapers.views import indices_for
from chainpapers.walkstates import sealers_asked
from chainpapers.withdrawal import state_among


class Findings:
    """What is found for one question after another, which differ neither in their store nor in their sealers."""

    def __init__(self, store):
        self.certificates = store[0]
        self.lists = store[1]
        self.sealed = {}
        self.reaching = {}

    def is_sealed(self, index):
        """Return whether the seal of a certificate fits."""
        if index not in self.sealed:
            self.sealed[index] = is_certificate_sealed(self.certificates[index])
        return self.sealed[index]

    def lists_for(self, question, ahead, index):
        """Return the list of the indices of the lists that reach a certificate behind a name and a key at some time."""
        if (ahead, index) not in self.reaching:
            sealers = sealers_asked(question, ahead)
            self.reaching[(ahead, index)] = indices_for(self.lists, sealers, self.certificates[index])
        return self.reaching[(ahead, index)]

    def withdrawal_bar(self, question, ahead, index):
        """Return "withdrawn" or "unknown", if this bars a certificate behind a pair (name, key), or None."""
        states, grace = question[6][:2]
        if states == "no":
            return None
        found = self.lists_for(question, ahead, index)
        return bar_of_state(question, state_among(self.lists, found, self.certificates[index], question[1], grace))
