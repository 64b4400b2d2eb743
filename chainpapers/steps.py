"""Steps of walks: a state and the next certificate give a new state, or a reason."""

from chainpapers.basics import is_integer
from chainpapers.certificates import is_head, issues_itself, part_in
from chainpapers.constraints import narrowed_region
from chainpapers.depths import NOT_LET, left_behind
from chainpapers.errors import InvalidNumber
from chainpapers.policysteps import ended_policies, entered_state, passed_state
from chainpapers.regions import is_title_in
from chainpapers.rights import purposes_in, uses_in
from chainpapers.sealing import is_certificate_sealed
from chainpapers.stores import check_question, check_store
from chainpapers.walkstates import check_walk_state, other_names_in, sealers_asked, titles_in
from chainpapers.withdrawal import state_at


def has_all(held, asked):
    """Return whether all that is asked is among what is held."""
    for word in asked:
        if word not in held:
            return False
    return True


def is_odd_must(certificate):
    """Return whether a certificate has an odd part that is a must, unchecked."""
    odd = part_in(certificate, "odd")
    return odd is not None and odd[0]


def withdrawal_bar(store, question, sealers, certificate):
    """Return "withdrawn" or "unknown", if this bars a certificate, or None, unchecked."""
    states, grace = question[6][:2]
    if states == "no":
        return None
    state = state_at(store[1], sealers, certificate, question[1], grace)
    is_barred = state == "withdrawn" or (state == "unknown" and states == "must")
    return state if is_barred else None


def is_named(region, certificate, is_target):
    """Return whether a certificate has no titles but those in a region, or is not asked for it, unchecked."""
    if issues_itself(certificate) and not is_target:
        return True
    for title in titles_in(certificate):
        if not is_title_in(region, title):
            return False
    return True


def entering_bar(store, question, state, index):
    """Return the first reason, but for the policies, that bars a certificate from being entered, or None, unchecked."""
    certificate = store[0][index]
    if certificate[1] != state[0]:
        return "issuer"
    if certificate[4] != state[1]:
        return "key"
    if not is_certificate_sealed(certificate):
        return "seal"
    if not certificate[5] <= question[1] <= certificate[6]:
        return "time"
    withdrawal = withdrawal_bar(store, question, sealers_asked(question, state), certificate)
    if withdrawal is not None:
        return withdrawal
    if is_odd_must(certificate):
        return "odd"
    if not is_named(state[3], certificate, index == question[0]):
        return "name"
    return None if has_all(purposes_in(certificate), question[3]) else "purpose"


def step_entering(store, question, state, index):
    """Return ("on", the state behind entering a certificate) or ("barred", reason), unchecked."""
    reason = entering_bar(store, question, state, index)
    if reason is not None:
        return ("barred", reason)
    policy = entered_state(state[4], store[0][index], index == question[0])
    return ("barred", "policy") if policy is None else ("on", state[:4] + (policy,))


def subtrees_in(certificate, word):
    """Return the permitted or the excluded subtrees of a certificate, () without the part, unchecked."""
    subtrees = part_in(certificate, word)
    return () if subtrees is None else subtrees


def step_passing(store, state, index):
    """Return ("on", the state behind passing a certificate) or ("barred", reason), unchecked."""
    certificate = store[0][index]
    if not is_head(certificate):
        return ("barred", "head")
    if "certs" not in uses_in(certificate):
        return ("barred", "uses")
    left = left_behind(state[2], certificate)
    if left == NOT_LET:
        return ("barred", "depth")
    region = narrowed_region(state[3], subtrees_in(certificate, "permitted"), subtrees_in(certificate, "excluded"))
    return ("on", (certificate[2], certificate[3], left, region, passed_state(state[4], certificate)))


def step_ending(store, question, state, index):
    """Return ("let", policies let) or ("barred", reason), unchecked."""
    certificate = store[0][index]
    if not has_all(uses_in(certificate), question[2]):
        return ("barred", "use")
    if not has_all(other_names_in(certificate), question[4]):
        return ("barred", "wanted")
    policies = ended_policies(state[4], certificate, question[5])
    return ("barred", "policies") if policies is None else ("let", policies)


def check_asked(store, question, state, index):
    """Raise the error of the first argument that is wrong."""
    check_store(store)
    check_question(store, question)
    check_walk_state(state)
    if not is_integer(index, 0, len(store[0]) - 1):
        raise InvalidNumber("the store has no such certificate")


def entered(store, question, state, index):
    """Return ("on", the state behind entering a certificate) or ("barred", reason)."""
    check_asked(store, question, state, index)
    return step_entering(store, question, state, index)


def passed(store, question, state, index):
    """Return ("on", the state behind passing a certificate other than the target) or ("barred", reason)."""
    check_asked(store, question, state, index)
    if index == question[0]:
        raise InvalidNumber("the target is not passed")
    return step_passing(store, state, index)


def ended(store, question, state, index):
    """Return ("let", policies let) at the target, or ("barred", reason)."""
    check_asked(store, question, state, index)
    if index != question[0]:
        raise InvalidNumber("only the target is ended at")
    return step_ending(store, question, state, index)
