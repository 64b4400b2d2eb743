"""Stores with a certificate more or less, and chains moved between stores: [86], and that a path stays one ([3])."""

from chainpapers.errors import InvalidCertificate, InvalidNumber, InvalidPath, InvalidStore, TooMany
from chainpapers.hangingchains import walk_of
from chainpapers.sealing import sealed_certificate
from chainpapers.storechanges import moved_chain, with_certificate, without_certificate
from chainpapers.stores import is_store
from tests.support import Case, odd_values
from tests.test_rights import NO_CERTIFICATES
from tests.test_walkstates import NO_STORES
from tests.things import ANCHOR, EMPTY_STORE, FULL, OPEN_ANCHOR, PLAIN, SELF, STORE, with_item
from tests.worlds import all_hanging, worlds


def many_certificates(many, first=0):
    return tuple(with_item(PLAIN, 0, serial) for serial in range(first, first + many))


class Changes(Case):
    def test_with(self):
        self.assertEqual(self.keeps(with_certificate, EMPTY_STORE, PLAIN), ((PLAIN,), (), ()))
        for certificate in STORE[0]:
            less = (tuple(one for one in STORE[0] if one != certificate),) + STORE[1:]
            self.assertEqual(self.keeps(with_certificate, less, certificate), STORE)
            self.assertEqual(self.keeps(with_certificate, STORE, certificate), STORE)

    def test_one_that_differs_in_little_is_another_one(self):
        for at, value in ((0, 8), (5, 99), (8, 1)):
            found = with_certificate(((PLAIN,), (), ()), with_item(PLAIN, at, value))
            self.assertEqual(len(found[0]), 2)
            self.assertIs(is_store(found), True)

    def test_full_stores(self):
        full, nearly = ((many_certificates(many),) + STORE[1:] for many in (30, 29))
        for certificate in (full[0][0], full[0][29]):
            self.assertEqual(with_certificate(full, certificate), full)
        for certificate in (FULL, SELF, with_item(PLAIN, 0, 30)):
            self.raises(TooMany, with_certificate, full, certificate, limit=30)
            found = with_certificate(nearly, certificate)
            self.assertEqual((len(found[0]), sorted(found[0]) == list(found[0]), certificate in found[0]), (30, True, True))
        self.raises(InvalidCertificate, with_certificate, full, FULL[:8])

    def test_without(self):
        for index, certificate in enumerate(STORE[0]):
            found = self.keeps(without_certificate, STORE, index)
            self.assertEqual(found, (STORE[0][:index] + STORE[0][index + 1:],) + STORE[1:])
            self.assertEqual(with_certificate(found, certificate), STORE)
        self.assertEqual(without_certificate(((PLAIN,), (), ()), 0), EMPTY_STORE)

    def test_moved_chains(self):
        other = (tuple(sorted((SELF, FULL))), (), (OPEN_ANCHOR,))
        at, there = STORE[0].index, other[0].index
        anchor = STORE[2].index(OPEN_ANCHOR)
        self.assertEqual(self.keeps(moved_chain, STORE, other, (anchor, (at(FULL), at(SELF)))), (0, (there(FULL), there(SELF))))
        self.assertEqual(moved_chain(STORE, other, (anchor, (at(SELF),))), (0, (there(SELF),)))
        self.assertIsNone(moved_chain(STORE, other, (anchor, (at(FULL), at(PLAIN)))))
        self.assertIsNone(moved_chain(STORE, other, (STORE[2].index(ANCHOR), (at(FULL),))))
        self.assertIsNone(moved_chain(STORE, EMPTY_STORE, (anchor, (at(FULL),))))
        self.assertEqual(moved_chain(STORE, STORE, (anchor, (2, 0, 1))), (anchor, (2, 0, 1)))

    def test_a_path_stays_a_path(self):
        more = [sealed_certificate((serial, ("r",), ("r",), 5, 5, 0, 900, (("basic", (True, -1)),), 0)) for serial in (0, 500)]
        paths = 0
        for store, question in worlds(150, 5):
            for chain in all_hanging(store, question):
                told = walk_of(store, question, chain)
                other = store
                for certificate in more:
                    other = with_certificate(other, certificate)
                target = other[0].index(store[0][question[0]])
                moved = moved_chain(store, other, chain)
                self.assertEqual(walk_of(other, (target,) + question[1:], moved), told)
                self.assertEqual(moved_chain(other, store, moved), chain)
                paths += told[0] == "path"
        self.assertGreater(paths, 50)

    def test_errors(self):
        indices = (odd_values(0, 1) + [-1, 3], InvalidNumber)
        self.checks(with_certificate, (STORE, PLAIN), [(NO_STORES, InvalidStore), (NO_CERTIFICATES, InvalidCertificate)])
        self.checks(without_certificate, (STORE, 0), [(NO_STORES, InvalidStore), indices])
        self.raises(InvalidNumber, without_certificate, EMPTY_STORE, 0)
        chains = odd_values() + [(0, ()), (2, (0,)), (-1, (0,)), (0, (3,)), (0, (0, 0)), [0, (0,)], (0, [0]), (0, (0, -1)), (True, (0,)),
                                 (0, (True,)), (0, (0, 1, 2) * 3)]
        self.checks(moved_chain, (STORE, EMPTY_STORE, (0, (0,))), [
            (NO_STORES, InvalidStore), (NO_STORES, InvalidStore), (chains, InvalidPath)])
        nine = (many_certificates(9), (), (OPEN_ANCHOR,))
        self.raises(InvalidPath, moved_chain, nine, nine, (0, tuple(range(9))))
        self.assertEqual(moved_chain(nine, nine, (0, tuple(range(8)))), (0, tuple(range(8))))
