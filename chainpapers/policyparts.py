"""Numbers of policies: after how many certificates policies are asked for, and mappings and "any" are barred."""

from chainpapers.basics import are_all, is_truth, is_tuple
from chainpapers.certificates import check_certificate, issues_itself, part_in
from chainpapers.depths import lesser_depth
from chainpapers.errors import InvalidNumbers, InvalidPath, InvalidTruth
from chainpapers.rights import is_chain
from chainpapers.stores import is_depth

NO_BOUND = -1


def are_numbers(value):
    """Return whether any value is a triple of numbers of policies, each of them none, or from 0 to 8, as a depth is."""
    return is_tuple(value, 3, 3) and are_all(value, is_depth)


def check_numbers(numbers):
    """Raise InvalidNumbers for what are no numbers of policies."""
    if not are_numbers(numbers):
        raise InvalidNumbers("these are no three numbers from -1 to 8")


def check_path(path):
    """Raise InvalidPath for what is no path, which has the form of a chain."""
    if not is_chain(path):
        raise InvalidPath("a path is a tuple of 1 to 8 certificates")


def check_truth(is_last):
    """Raise InvalidTruth for what is neither True nor False."""
    if not is_truth(is_last):
        raise InvalidTruth("a certificate is the last one, or is not")


def numbers_told(certificate):
    """Return the numbers that a certificate tells, unchecked."""
    ask_and_map = part_in(certificate, "policylimits")
    any_limit = part_in(certificate, "anylimit")
    if ask_and_map is None:
        ask_and_map = (NO_BOUND, NO_BOUND)
    return ask_and_map + (NO_BOUND if any_limit is None else any_limit,)


def numbers_behind(numbers, certificate):
    """Return the numbers behind a certificate that is not the target, unchecked."""
    told = numbers_told(certificate)
    behind = []
    for at in range(3):
        left = numbers[at]
        if left > 0 and not issues_itself(certificate):
            left = left - 1
        behind.append(lesser_depth(left, told[at]))
    return tuple(behind)


def ask_at_target(numbers, certificate):
    """Return the number ask at the target, from the numbers ahead of it, unchecked."""
    if numbers_told(certificate)[0] == 0:
        return 0
    # Unlike elsewhere it is no matter here whether the target is self-issued.
    return numbers[0] - 1 if numbers[0] > 0 else numbers[0]


def is_any_barred(numbers, certificate, is_last):
    """Return whether "any" is barred at a certificate, from the numbers ahead of it, unchecked."""
    return numbers[2] == 0 and (is_last or not issues_itself(certificate))


def all_numbers(numbers, path):
    """Return the list of the numbers ahead of each certificate of a path, unchecked."""
    along = [numbers]
    for certificate in path[:-1]:
        along.append(numbers_behind(along[-1], certificate))
    return along


def limits_of(certificate):
    """Return the numbers that a certificate tells."""
    check_certificate(certificate)
    return numbers_told(certificate)


def numbers_along(numbers, path):
    """Return the tuple of the numbers ahead of each certificate of a path."""
    check_numbers(numbers)
    check_path(path)
    return tuple(all_numbers(numbers, path))
