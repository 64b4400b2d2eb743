"""At which times a state becomes another one: [75]."""

from chainpapers.errors import InvalidCertificate, InvalidList, InvalidNumber, InvalidSealers
from chainpapers.statechanges import state_changes
from chainpapers.withdrawal import state_word
from tests.lists import SEALERS, certificate_of, made, worlds
from tests.support import Case, odd_values
from tests.test_reaching import NO_GRACES, NO_SEALERS
from tests.test_rights import NO_CERTIFICATES
from tests.test_times import WRONG_TIMES
from tests.test_views import ASKED, NO_TUPLES, lists_of
from tests.test_withdrawal import CERTIFICATE, entry


class Changes(Case):
    def told(self, lists, sealers, certificate, grace, low, high):
        """The changes, told time by time."""
        found = []
        for time in range(low, high + 1):
            state = state_word(lists, sealers, certificate, time, grace)
            if not found or found[-1][1] != state:
                found.append((time, state))
        return tuple(found)

    def changes(self, *own, grace=0, low=0, high=200):
        return self.keeps(state_changes, lists_of(*own), SEALERS, CERTIFICATE, grace, low, high)

    def test_at_random(self):
        many = 0
        for lists, sealers, certificate, low, grace in worlds(300):
            for first, last in ((0, 36), (low, low + 9), (low, low)):
                told = self.told(lists, sealers, certificate, grace, first, last)
                self.assertEqual(state_changes(lists, sealers, certificate, grace, first, last), told)
                many += len(told)
        self.assertGreater(many, 1000)

    def test_by_hand(self):
        self.assertEqual(self.changes(), ((0, "unknown"),))
        own = made(1, -1, (entry(30),), span=(10, 50))
        self.assertEqual(self.changes(own), ((0, "unknown"), (10, "good"), (30, "withdrawn"), (51, "unknown")))
        self.assertEqual(self.changes(own, grace=7), ((0, "unknown"), (10, "good"), (30, "withdrawn"), (58, "unknown")))
        self.assertEqual(self.changes(own, low=10, high=30), ((10, "good"), (30, "withdrawn")))
        self.assertEqual(self.changes(own, low=11, high=29), ((11, "good"),))
        self.assertEqual(self.changes(own, low=30, high=50), ((30, "withdrawn"),))
        self.assertEqual(self.changes(own, low=51, high=51), ((51, "unknown"),))
        back = made(2, 1, (entry(35, "back"),), span=(40, 45))
        self.assertEqual(self.changes(own, back, low=20), (
            (20, "good"), (30, "withdrawn"), (40, "good"), (46, "withdrawn"), (51, "unknown")))

    def test_times_that_change_nothing(self):
        self.assertEqual(self.changes(made(span=(0, 50)), made(2, span=(20, 60))), ((0, "good"), (61, "unknown")))
        self.assertEqual(self.changes(made(span=(0, 50)), made(2, span=(51, 60))), ((0, "good"), (61, "unknown")))
        self.assertEqual(self.changes(made(span=(0, 50)), made(2, span=(52, 60))), (
            (0, "good"), (51, "unknown"), (52, "good"), (61, "unknown")))

    def test_ends_of_all_times(self):
        most = 10 ** 9
        own = made(span=(most, most))
        self.assertEqual(self.changes(own, high=most, grace=10 ** 6), ((0, "unknown"), (most, "good")))
        self.assertEqual(self.changes(made(span=(0, most)), low=0, high=most), ((0, "good"),))
        self.assertEqual(self.changes(made(span=(0, most - 2)), low=most, high=most, grace=1), ((most, "unknown"),))

    def test_many_lists(self):
        entries = tuple(sorted(entry(at, "hold" if at & 1 else "key", at) for at in range(1, 31)))
        lists = [made(number, -1 if number & 1 else 0, entries, span=(number * 8, number * 8 + 30)) for number in range(1, 13)]
        known = lists_of(*lists)
        told = self.told(known, SEALERS, certificate_of(7), 2, 0, 140)
        self.assertEqual(state_changes(known, SEALERS, certificate_of(7), 2, 0, 140), told)

    def test_errors(self):
        lists, sealers, certificate, _, _ = ASKED
        no_highs = odd_values() + [4, -1, 10 ** 9 + 1]
        self.checks(state_changes, (lists, sealers, certificate, 0, 5, 5), [
            (NO_TUPLES, InvalidList), (NO_SEALERS, InvalidSealers), (NO_CERTIFICATES, InvalidCertificate),
            (NO_GRACES, InvalidNumber), (odd_values(0, 1) + WRONG_TIMES, InvalidNumber), (no_highs, InvalidNumber)])
