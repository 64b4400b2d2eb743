"""Views, and the newest ones: [24], [72], and what [3] says of lists that one history tells."""

import random

from chainpapers.errors import InvalidCertificate, InvalidList, InvalidNumber, InvalidSealers
from chainpapers.histories import entries_after, history_list
from chainpapers.views import newest_views, views_of
from tests.lists import OTHER, SEALERS, certificate_of, made, some_history, told_entries, told_newest, told_number, told_views
from tests.lists import unsealed, worlds
from tests.support import Case, odd_values
from tests.test_reaching import NO_GRACES, NO_SEALERS, THIRTEEN
from tests.test_rights import NO_CERTIFICATES
from tests.test_times import WRONG_TIMES
from tests.things import PLAIN, WHOLE

CERTIFICATE = certificate_of()
MANY = tuple(made(number) for number in range(13))
NO_TUPLES = odd_values(()) + [tuple(sorted(MANY)), tuple(sorted(MANY))[1::-1], MANY[:1] * 2, [WHOLE], WHOLE, (WHOLE, None),
                              (WHOLE[:8],), (PLAIN,)]
WRONG = [(NO_TUPLES, InvalidList), (NO_SEALERS, InvalidSealers), (NO_CERTIFICATES, InvalidCertificate),
         (WRONG_TIMES, InvalidNumber), (NO_GRACES, InvalidNumber)]
ASKED = (tuple(sorted(MANY[:12])), THIRTEEN[:12], PLAIN, 0, 0)


def lists_of(*own):
    return tuple(sorted(own))


class Views(Case):
    def newest(self, *own, time=50, grace=0, certificate=CERTIFICATE):
        """The newest views of some lists, as pairs of the lists that are meant, None for no delta."""
        lists = lists_of(*own)
        found = self.keeps(newest_views, lists, SEALERS, certificate, time, grace)
        self.assertEqual(found, sorted(found))
        return [(lists[index], lists[other] if other >= 0 else None) for index, other in found]

    def test_at_random(self):
        seen = {-1: 0, 0: 0}
        for world in worlds(500):
            views = told_views(*world)
            self.assertEqual(self.keeps(views_of, *world), views)
            newest = self.keeps(newest_views, *world)
            self.assertEqual(newest, told_newest(world[0], views))
            for _, other in newest:
                seen[min(other, 0)] += 1
        self.assertGreater(min(seen.values()), 50)

    def test_no_lists(self):
        self.assertEqual(views_of((), SEALERS, CERTIFICATE, 0, 0), [])
        self.assertEqual(newest_views((), (), CERTIFICATE, 0, 0), [])

    def test_whole_lists(self):
        self.assertEqual(self.newest(made(3), made(4)), [(made(4), None)])
        self.assertEqual(self.newest(made(3), made(4, span=(60, 70))), [(made(3), None)])
        self.assertEqual(self.newest(made(3), made(3, span=(0, 60))), [(one, None) for one in lists_of(made(3), made(3, span=(0, 60)))])
        self.assertEqual(self.newest(made(3), unsealed(made(4))), [(made(3), None)])
        self.assertEqual(self.newest(made(0)), [(made(0), None)])

    def test_deltas(self):
        self.assertEqual(self.newest(made(3), made(5, 3)), [(made(3), made(5, 3))])
        self.assertEqual(self.newest(made(3), made(5, 4)), [(made(3), None)])
        self.assertEqual(self.newest(made(3), made(4), made(5, 3)), [(made(3), made(5, 3)), (made(4), made(5, 3))])
        self.assertEqual(self.newest(made(3), made(5), made(5, 3)), [(made(3), made(5, 3)), (made(5), None)])
        self.assertEqual(self.newest(made(3), made(6), made(5, 3)), [(made(6), None)])
        self.assertEqual(self.newest(made(5, 3)), [])
        self.assertEqual(self.newest(made(3), made(5, 3, span=(0, 40))), [(made(3), None)])
        short = made(5, 3, span=(0, 40))
        self.assertEqual(self.newest(made(3), short, grace=10), [(made(3), short)])
        self.assertEqual(self.newest(made(3, span=(0, 40)), made(5, 3)), [])
        self.assertEqual(self.newest(made(3), made(5, 3), made(4, 0)), [(made(3), made(5, 3))])

    def test_families(self):
        scope = ("users", False, ("key",))
        one, two, three = made(3), made(9, scope=scope), made(1, sealer=6)
        self.assertEqual(sorted(self.newest(one, two, three)), sorted([(one, None), (two, None), (three, None)]))
        self.assertEqual(self.newest(one, made(5, 3, scope=scope), made(5, 3, sealer=6)), [(one, None)])
        named = certificate_of(parts={"lists": (("r",), OTHER)})
        four = made(2, scope=("all", True, ()), issuer=OTHER)
        self.assertEqual(sorted(self.newest(one, four, certificate=named)), sorted([(one, None), (four, None)]))

    def test_twelve_lists(self):
        wholes, deltas = [made(number) for number in range(6)], [made(9, number) for number in range(6)]
        lists = lists_of(*wholes, *deltas)
        self.assertEqual(len(views_of(lists, SEALERS, CERTIFICATE, 0, 0)), 6 + 21)
        self.assertEqual(len(newest_views(lists, SEALERS, CERTIFICATE, 0, 0)), 21)

    def test_lists_that_one_history_tells(self):
        many = 0
        for seed in range(300):
            source = random.Random(seed)
            history, frame = some_history(source)
            lists = set()
            for _ in range(source.randint(1, 8)):
                number = source.randint(0, len(history))
                span = tuple(sorted((source.randint(0, 9), source.randint(6, 20))))
                lists.add(history_list(history, frame[:2] + span + frame[4:], source.randint(-1, max(-1, number - 1)), number))
            lists = tuple(sorted(lists))
            for basic in ((True, 0), (False, -1)):
                certificate = certificate_of(issuer=frame[0], parts={"basic": basic})
                newest = newest_views(lists, SEALERS, certificate, 8, 0)
                numbers = {told_number(lists, view) for view in newest}
                self.assertLessEqual(len(numbers), 1)
                for view in newest:
                    self.assertEqual(told_entries(lists, view), entries_after(history, list(numbers)[0]))
                    many += view[1] >= 0
        self.assertGreater(many, 100)

    def test_errors(self):
        for function in (views_of, newest_views):
            self.checks(function, ASKED, WRONG)
