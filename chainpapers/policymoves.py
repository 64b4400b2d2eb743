"""Moves of states of policies along the certificates of a store, each of them made once; the states have numbers."""

from chainpapers.policyorder import is_policy_state_laxer
from chainpapers.policysteps import ended_policies, entered_state, passed_state


class PolicyMoves:
    """The states of policies that were met, by their numbers, and what they become at certificates."""

    def __init__(self, store):
        self.certificates = store[0]
        self.met = []
        self.numbers = {}
        self.entries = {}
        self.passings = {}
        self.orders = {}

    def number_of(self, state):
        """Return the number of a state."""
        if state not in self.numbers:
            self.numbers[state] = len(self.met)
            self.met.append(state)
        return self.numbers[state]

    def entering(self, number, index, is_target):
        """Return the number of the state entering a certificate, or None if nothing is kept then, and ask is 0."""
        move = (number, index, is_target)
        if move not in self.entries:
            state = entered_state(self.met[number], self.certificates[index], is_target)
            self.entries[move] = None if state is None else self.number_of(state)
        return self.entries[move]

    def passing(self, number, index):
        """Return the number of the state passing a certificate."""
        if (number, index) not in self.passings:
            state = passed_state(self.met[number], self.certificates[index])
            self.passings[(number, index)] = self.number_of(state)
        return self.passings[(number, index)]

    def ending(self, number, index, wanted):
        """Return what a state behind entering the target lets, or None if this is () and ask is 0 there."""
        return ended_policies(self.met[number], self.certificates[index], wanted)

    def is_laxer(self, number, other):
        """Return whether the first state is laxer than the other one, or as lax."""
        if (number, other) not in self.orders:
            self.orders[(number, other)] = is_policy_state_laxer(self.met[number], self.met[other])
        return self.orders[(number, other)]
