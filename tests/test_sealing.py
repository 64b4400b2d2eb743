"""Rows and seals of certificates and lists: [5], [46]."""

from chainpapers.errors import InvalidCertificate, InvalidList
from chainpapers.seals import seal_of
from chainpapers.sealing import certificate_row, is_sealed, is_sealed_list, list_row, sealed_certificate, sealed_list
from chainpapers.valuerows import row_of
from tests.support import Case, odd_values
from tests.things import DELTA, FULL, PLAIN, SELF, WHOLE, with_item

CERTIFICATES = (PLAIN, FULL, SELF)
LISTS = (WHOLE, DELTA)


class Sealing(Case):
    def test_rows_are_those_of_the_values(self):
        for certificate in CERTIFICATES:
            self.assertEqual(self.keeps(certificate_row, certificate), row_of(certificate))
        for own in LISTS:
            self.assertEqual(self.keeps(list_row, own), row_of(own))

    def test_seal_is_by_the_sealer_of_the_first_eight(self):
        for certificate in CERTIFICATES:
            seal = seal_of(certificate[4], row_of(certificate[:8]))
            self.assertEqual(self.keeps(sealed_certificate, certificate), certificate[:8] + (seal,))
        for own in LISTS:
            self.assertEqual(self.keeps(sealed_list, own), own[:8] + (seal_of(own[1], row_of(own[:8])),))

    def test_what_is_sealed_is_so_and_stays_so(self):
        for certificate in CERTIFICATES:
            sealed = sealed_certificate(certificate)
            self.assertIs(is_sealed(sealed), True)
            self.assertIs(is_sealed(certificate), False)
            self.assertEqual(sealed_certificate(sealed), sealed)
            self.assertIs(is_sealed(with_item(sealed, 8, sealed[8] ^ 1)), False)
        for own in LISTS:
            sealed = sealed_list(own)
            self.assertIs(is_sealed_list(sealed), True)
            self.assertIs(is_sealed_list(own), False)
            self.assertEqual(sealed_list(sealed), sealed)
            self.assertIs(is_sealed_list(with_item(sealed, 8, sealed[8] ^ 1)), False)

    def test_each_item_is_sealed(self):
        sealed = sealed_certificate(FULL)
        others = (2, ("r",), ("r", "b"), 2, 1, 1, 0, FULL[7][1:])
        for at, item in enumerate(others):
            if at != 6:
                self.assertIs(is_sealed(with_item(sealed, at, item)), False, at)
        sealed = sealed_list(DELTA)
        others = (("r",), 1, 6, 3, 0, 2, ("all", True, ("hold", "key")), DELTA[7][1:])
        for at, item in enumerate(others):
            self.assertIs(is_sealed_list(with_item(sealed, at, item)), False, at)

    def test_errors(self):
        for function in (certificate_row, sealed_certificate, is_sealed):
            self.checks(function, (PLAIN,), [(odd_values() + [WHOLE, PLAIN[:8]], InvalidCertificate)])
        for function in (list_row, sealed_list, is_sealed_list):
            self.checks(function, (WHOLE,), [(odd_values() + [PLAIN, WHOLE[:8]], InvalidList)])
