"""Answers over times: when something may turn, what is answered then, and when there is a path."""

from chainpapers.basics import are_span, is_alike, is_tuple
from chainpapers.builder import built_by
from chainpapers.candidates import all_linked
from chainpapers.errors import InvalidTime
from chainpapers.statechanges import times_between, turning_times
from chainpapers.stores import check_question, check_store
from chainpapers.treepapers import is_built
from chainpapers.walker import Walker


def check_asked(store, question, low, high):
    """Raise the error of the first argument that is wrong."""
    check_store(store)
    check_question(store, question)
    if not are_span(low, high):
        raise InvalidTime("these are no two times, the low one at most the high one")


def turns_between(store, question, low, high):
    """Return the ascending list of the turning times, unchecked."""
    times = []
    for certificate in store[0]:
        times.extend([certificate[5], certificate[6] + 1])
    states, grace = question[6][:2]
    if states != "no":
        times.extend(turning_times(store[1], list(range(len(store[1]))), grace))
    return times_between(times, low, high)


def at_time(question, time):
    """Return the question at another time."""
    return question[:1] + (time,) + question[2:]


def bars_at(walker, linked):
    """Return what bars each of some certificates by itself; where this is the same, just the same is an answer."""
    return tuple([walker.bars_of(index) for index in linked])


def answers_at(store, question, times):
    """Return the list of the answers at some times, unchecked."""
    walker = Walker(store, question)
    linked = all_linked(store)
    known = {}
    answers = []
    for time in times:
        walker.ask(at_time(question, time))
        bars = bars_at(walker, linked)
        if bars not in known:
            known[bars] = built_by(walker, False)
        answers.append(known[bars])
    return answers


def change_times(store, question, low, high):
    """Return the ascending tuple of the turning times from a low time up to a high one."""
    check_asked(store, question, low, high)
    return tuple(turns_between(store, question, low, high))


def answers_over(store, question, low, high):
    """Return the tuple of the pairs (time, answer) for each turning time, in order."""
    check_asked(store, question, low, high)
    times = turns_between(store, question, low, high)
    return tuple(zip(times, answers_at(store, question, times)))


def times_let(store, question, low, high):
    """Return the ascending tuple of the stretches of the times from low up to high at which there is a path."""
    check_asked(store, question, low, high)
    times = turns_between(store, question, low, high)
    answers = answers_at(store, question, times)
    ends = [time - 1 for time in times[1:]] + [high]
    stretches = []
    for at in range(len(times)):
        if answers[at][0] == "path":
            begin = times[at]
            if stretches and stretches[-1][1] == begin - 1:
                begin = stretches.pop()[0]
            stretches.append((begin, ends[at]))
    return tuple(stretches)


def takes_over(store, question, low, high, value):
    """Return whether any value is a tuple of the pairs (time, answer), with an answer at each turning time."""
    check_asked(store, question, low, high)
    times = turns_between(store, question, low, high)
    if not is_tuple(value, len(times), len(times)):
        return False
    walker = Walker(store, question)
    linked = all_linked(store)
    taken = None
    for at in range(len(times)):
        if not is_tuple(value[at], 2, 2) or not is_alike(value[at][0], times[at]):
            return False
        answer = value[at][1]
        walker.ask(at_time(question, times[at]))
        # Unlike values that are equal, True and 1, say, are written unlike.
        told = (bars_at(walker, linked), repr(answer))
        if told != taken and not is_built(walker, store, answer):
            return False
        taken = told
    return True
