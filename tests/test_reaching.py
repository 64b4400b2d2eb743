"""Which lists reach a certificate: [23], [69]."""

from chainpapers.errors import InvalidCertificate, InvalidList, InvalidNumber, InvalidSealers
from chainpapers.reaching import family_of, list_names, reaches
from tests.lists import ALL, OTHER, REASONS, ROOT, SEALERS, certificate_of, made, told_reaches, unsealed, worlds
from tests.support import Case, odd_values, spoiled
from tests.test_rights import NO_CERTIFICATES
from tests.test_times import WRONG_TIMES
from tests.things import DELTA, FULL, PLAIN, WHOLE, names

NO_LISTS = odd_values() + [WHOLE[:8], list(WHOLE), PLAIN, WHOLE[:3] + (3,) + WHOLE[4:], WHOLE + (0,)]
THIRTEEN = tuple((name, 0) for name in names(13))
NO_SEALERS = odd_values(()) + [THIRTEEN, THIRTEEN[1::-1], THIRTEEN[:1] * 2, [(("a",), 1)], ((("a",), -1),), ((("a",), True),),
                               ((("a",),),), (((), 1),), ((("a",), 1, 1),)] + list(spoiled(SEALERS[:2]))
NO_GRACES = odd_values(0, 1) + [-1, 10 ** 6 + 1]


class Reaching(Case):
    def test_list_names(self):
        self.assertEqual(self.keeps(list_names, PLAIN), (PLAIN[1],))
        self.assertEqual(list_names(FULL), (("root",), ("root", "lists")))
        self.assertEqual(list_names(certificate_of(parts={"lists": (OTHER,)})), (OTHER,))

    def test_families(self):
        self.assertEqual(self.keeps(family_of, WHOLE), (("root",), 5, ("all", False, ())))
        self.assertEqual(family_of(DELTA), (("root",), 0, ("heads", True, ("hold", "key"))))

    def reaches(self, own, certificate=certificate_of(), time=50, grace=0, sealers=SEALERS[:1]):
        return self.keeps(reaches, own, sealers, certificate, time, grace)

    def test_each_condition_by_itself(self):
        self.assertIs(self.reaches(made()), True)
        self.assertIs(self.reaches(made(3, 1)), True)
        self.assertIs(self.reaches(made(sealer=6)), False)
        self.assertIs(self.reaches(made(sealer=6), sealers=SEALERS), True)
        self.assertIs(self.reaches(made(), sealers=()), False)
        self.assertIs(self.reaches(made(), sealers=SEALERS[1:]), False)
        self.assertIs(self.reaches(unsealed(made())), False)
        self.assertIs(self.reaches(made()[:2] + (1,) + made()[3:]), False)
        self.assertIs(self.reaches(made(), certificate_of(parts={"lists": (OTHER,)})), False)
        self.assertIs(self.reaches(made(), certificate_of(parts={"lists": (ROOT, OTHER)})), True)

    def test_others(self):
        """A list of another issuer must be named by the certificate, and its scope's others be True."""
        with_others = ("all", True, ())
        named = certificate_of(parts={"lists": (OTHER,)})
        for scope, certificate, is_one in ((ALL, named, False), (with_others, named, True), (with_others, certificate_of(), False),
                                           (ALL, certificate_of(issuer=OTHER), True)):
            own = made(scope=scope, issuer=OTHER)
            self.assertIs(self.reaches(own, certificate, sealers=SEALERS), is_one, (scope, certificate))
        self.assertIs(self.reaches(made(scope=with_others)), True)

    def test_kinds(self):
        head, plain = (certificate_of(parts={"basic": basic}) for basic in ((True, 0), (False, -1)))
        for kinds, told in (("all", (True, True, True)), ("heads", (True, False, False)), ("users", (False, True, True))):
            own = made(scope=(kinds, False, ()))
            self.assertEqual(tuple(self.reaches(own, one) for one in (head, plain, certificate_of())), told, kinds)

    def test_reasons_do_not_matter(self):
        for reasons in ((), REASONS[:1], REASONS[:6]):
            self.assertIs(self.reaches(made(scope=("all", False, reasons))), True)

    def test_times(self):
        own = made(span=(20, 40))
        for time, grace, is_one in ((19, 0, False), (20, 0, True), (40, 0, True), (41, 0, False), (41, 1, True), (45, 5, True),
                                    (46, 5, False), (19, 5, False), (40 + 10 ** 6, 10 ** 6, True),
                                    (41 + 10 ** 6, 10 ** 6, False)):
            self.assertIs(self.reaches(own, time=time, grace=grace), is_one, (time, grace))
        self.assertIs(self.reaches(made(span=(0, 10 ** 9)), time=10 ** 9, grace=10 ** 6), True)
        self.assertIs(self.reaches(made(span=(0, 0)), time=0), True)

    def test_at_random(self):
        seen = {True: 0, False: 0}
        for lists, sealers, certificate, time, grace in worlds(300):
            for own in lists:
                is_one = told_reaches(own, sealers, certificate, time, grace)
                self.assertIs(reaches(own, sealers, certificate, time, grace), is_one)
                seen[is_one] += 1
        self.assertGreater(min(seen.values()), 200)

    def test_errors(self):
        self.checks(list_names, (PLAIN,), [(NO_CERTIFICATES, InvalidCertificate)])
        self.checks(family_of, (WHOLE,), [(NO_LISTS, InvalidList)])
        self.checks(reaches, (WHOLE, THIRTEEN[:12], PLAIN, 0, 0), [
            (NO_LISTS, InvalidList), (NO_SEALERS, InvalidSealers), (NO_CERTIFICATES, InvalidCertificate),
            (WRONG_TIMES, InvalidNumber), (NO_GRACES, InvalidNumber)])
