"""Numbers of policies: [18], [63]."""

from chainpapers.errors import InvalidCertificate, InvalidNumbers, InvalidPath
from chainpapers.policyparts import limits_of, numbers_along
from tests.chains import made
from tests.policies import OPEN, questions, told_ahead, told_own
from tests.support import Case, odd_values, spoiled
from tests.test_rights import NO_CERTIFICATES, NO_CHAINS
from tests.things import FULL, PLAIN

NO_NUMBERS = odd_values((1, 2, 3)) + [(-2, 0, 0), (0, 9, 0), (0, 0, -2), (0, 0), (0, 0, 0, 0), [0, 0, 0]] + list(spoiled((0, 1, -1)))
ITSELF = made({}, itself=True)


def telling(ask, limit, last, itself=False):
    parts = {"policylimits": (ask, limit)} if (ask, limit) != (-1, -1) else {}
    return made(dict(parts, **({} if last == -1 else {"anylimit": last})), itself=itself)


class Numbers(Case):
    def test_told_by_a_certificate(self):
        self.assertEqual(self.keeps(limits_of, FULL), (1, -1, 3))
        for ask in (-1, 0, 8):
            for limit in (-1, 0, 8):
                for last in (-1, 0, 8):
                    self.assertEqual(limits_of(telling(ask, limit, last)), (ask, limit, last))

    def test_along_paths(self):
        for numbers, path in questions(500, 8):
            self.assertEqual(self.keeps(numbers_along, numbers, path), tuple(told_ahead(numbers, path)[:-1]))
            self.assertEqual(limits_of(path[0]), told_own(path[0]))

    def test_each_number_by_itself(self):
        path = (made(),) * 8
        for at in range(3):
            for number in range(-1, 9):
                numbers = OPEN[:at] + (number,) + OPEN[at + 1:]
                along = [number if number == -1 else max(0, number - step) for step in range(8)]
                self.assertEqual([told[at] for told in numbers_along(numbers, path)], along)
                others = [told[:at] + told[at + 1:] for told in numbers_along(numbers, path)]
                self.assertEqual(others, [(-1, -1)] * 8)
                self.assertEqual(numbers_along(numbers, (ITSELF,) * 8), (numbers,) * 8)

    def test_the_lesser_one_behind_a_certificate(self):
        for number, told, itself, behind in (
                (-1, -1, False, -1), (-1, 0, False, 0), (-1, 8, False, 8), (8, 8, False, 7), (8, 8, True, 8), (3, 2, False, 2),
                (3, 1, False, 1), (2, 5, False, 1), (0, 5, False, 0), (0, 0, True, 0), (1, -1, False, 0), (1, -1, True, 1),
                (5, 2, True, 2), (-1, 3, True, 3)):
            for at in range(3):
                own = telling(*(OPEN[:at] + (told,) + OPEN[at + 1:]), itself=itself)
                found = numbers_along(OPEN[:at] + (number,) + OPEN[at + 1:], (own, made()))
                self.assertEqual(found[1], OPEN[:at] + (behind,) + OPEN[at + 1:], (number, told, itself))

    def test_the_target_changes_nothing_ahead_of_it(self):
        self.assertEqual(numbers_along((5, 6, 7), (telling(0, 0, 0),)), ((5, 6, 7),))

    def test_errors(self):
        self.checks(limits_of, (PLAIN,), [(NO_CERTIFICATES, InvalidCertificate)])
        self.checks(numbers_along, (OPEN, (PLAIN,)), [(NO_NUMBERS, InvalidNumbers), (NO_CHAINS, InvalidPath)])
