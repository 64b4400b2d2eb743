"""Steps of walks: a state and the next certificate give a new state, or a reason."""

from chainpapers.basics import is_integer
from chainpapers.certificates import is_head
from chainpapers.constraints import narrowed_region
from chainpapers.depths import NOT_LET, left_behind
from chainpapers.errors import InvalidNumber
from chainpapers.policysteps import ended_policies, entered_state, passed_state
from chainpapers.rules import bar_of_state, can_certify, has_purposes, has_uses, has_wanted_names, is_lasting
from chainpapers.rules import is_named, is_odd_must, subtrees_told
from chainpapers.sealing import is_certificate_sealed
from chainpapers.stores import check_question, check_store
from chainpapers.walkstates import check_walk_state, sealers_asked
from chainpapers.withdrawal import state_at


def withdrawal_bar(store, question, sealers, certificate):
    """Return "withdrawn" or "unknown", if this bars a certificate, or None, unchecked."""
    states, grace = question[6][:2]
    if states == "no":
        return None
    return bar_of_state(question, state_at(store[1], sealers, certificate, question[1], grace))


def entering_bar(store, question, state, index):
    """Return the first reason, but for the policies, that bars a certificate from being entered, or None, unchecked."""
    certificate = store[0][index]
    if certificate[1] != state[0]:
        return "issuer"
    if certificate[4] != state[1]:
        return "key"
    if not is_certificate_sealed(certificate):
        return "seal"
    if not is_lasting(question, certificate):
        return "time"
    withdrawal = withdrawal_bar(store, question, sealers_asked(question, state), certificate)
    if withdrawal is not None:
        return withdrawal
    if is_odd_must(certificate):
        return "odd"
    if not is_named(state[3], certificate, index == question[0]):
        return "name"
    return None if has_purposes(question, certificate) else "purpose"


def step_entering(store, question, state, index):
    """Return ("on", the state behind entering a certificate) or ("barred", reason), unchecked."""
    reason = entering_bar(store, question, state, index)
    if reason is not None:
        return ("barred", reason)
    policy = entered_state(state[4], store[0][index], index == question[0])
    return ("barred", "policy") if policy is None else ("on", state[:4] + (policy,))


def step_passing(store, state, index):
    """Return ("on", the state behind passing a certificate) or ("barred", reason), unchecked."""
    certificate = store[0][index]
    if not is_head(certificate):
        return ("barred", "head")
    if not can_certify(certificate):
        return ("barred", "uses")
    left = left_behind(state[2], certificate)
    if left == NOT_LET:
        return ("barred", "depth")
    permitted, excluded = subtrees_told(certificate)
    region = narrowed_region(state[3], permitted, excluded)
    return ("on", (certificate[2], certificate[3], left, region, passed_state(state[4], certificate)))


def step_ending(store, question, state, index):
    """Return ("let", policies let) or ("barred", reason), unchecked."""
    certificate = store[0][index]
    if not has_uses(question, certificate):
        return ("barred", "use")
    if not has_wanted_names(question, certificate):
        return ("barred", "wanted")
    policies = ended_policies(state[4], certificate, question[5])
    return ("barred", "policies") if policies is None else ("let", policies)


def step_through(store, question, state, index):
    """Return what is told behind entering a certificate, and ending at it or passing it, unchecked."""
    step = step_entering(store, question, state, index)
    if step[0] == "barred":
        return step
    return step_ending(store, question, step[1], index) if index == question[0] else step_passing(store, step[1], index)


def check_asked(store, question, state, index):
    """Raise the error of the first argument that is wrong."""
    check_store(store)
    check_question(store, question)
    check_walk_state(state)
    if not is_integer(index, 0, len(store[0]) - 1):
        raise InvalidNumber("the store has no such certificate")


def entered(store, question, state, index):
    """Return ("on", the state behind entering a certificate) or ("barred", reason)."""
    check_asked(store, question, state, index)
    return step_entering(store, question, state, index)


def passed(store, question, state, index):
    """Return ("on", the state behind passing a certificate other than the target) or ("barred", reason)."""
    check_asked(store, question, state, index)
    if index == question[0]:
        raise InvalidNumber("the target is not passed")
    return step_passing(store, state, index)


def ended(store, question, state, index):
    """Return ("let", policies let) at the target, or ("barred", reason)."""
    check_asked(store, question, state, index)
    if index != question[0]:
        raise InvalidNumber("only the target is ended at")
    return step_ending(store, question, state, index)
