"""Which certificates fit behind which others: [33], [81]."""

from chainpapers.candidates import candidates, fits_behind, linked, links
from chainpapers.errors import InvalidCertificate, InvalidName, InvalidNumber, InvalidStore
from tests.support import Case, odd_values
from tests.test_rights import NO_CERTIFICATES
from tests.test_walkstates import NO_STORES
from tests.things import EMPTY_STORE, OPEN_ANCHOR, PLAIN, STORE, with_item
from tests.worlds import told_fits, worlds

NO_NAMES = odd_values(("a",), ("a", "b")) + [(), ("a",) * 5, ("A",), "a"]
NO_KEYS = odd_values(0, 1) + [-1, 2 ** 32]


def joined(issuer, sealer, subject, key, serial=1):
    return (serial, (issuer,), (subject,), key, sealer, 0, 9, (), 0)


class Candidates(Case):
    def test_fits_behind(self):
        one = joined("r", 5, "a", 6)
        for name, key, told in ((("r",), 5, True), (("r",), 6, False), (("a",), 5, False), (("a",), 6, False), (("r", "r"), 5, False)):
            self.assertIs(self.keeps(fits_behind, one, name, key), told)

    def test_nothing_else_matters(self):
        """Seals, times, heads and all other parts are no matter here."""
        for part in ((), (("basic", (False, -1)),), (("odd", (True, "w")),)):
            self.assertIs(fits_behind(with_item(with_item(PLAIN, 7, part), 8, 1), ("root",), 5), True)

    def test_by_hand(self):
        certificates = tuple(sorted((joined("r", 5, "a", 6), joined("r", 5, "b", 7), joined("a", 6, "a", 6), joined("a", 6, "r", 5),
                                     joined("b", 7, "c", 8), joined("x", 9, "x", 9), joined("r", 6, "d", 5))))
        store = (certificates, (), ((("r",), 5, (), (), -1), (("s",), 5, (), (), -1)))
        at = {(one[1][0], one[2][0]): place for place, one in enumerate(certificates)}
        ra, rb, aa, ar, bc, xx, rd = (at[pair] for pair in (("r", "a"), ("r", "b"), ("a", "a"), ("a", "r"), ("b", "c"),
                                                            ("x", "x"), ("r", "d")))
        self.assertEqual(self.keeps(candidates, store, ("r",), 5), tuple(sorted((ra, rb))))
        self.assertEqual([candidates(store, ("r",), 6), candidates(store, ("d",), 5)], [(rd,), ()])
        self.assertEqual(self.keeps(links, store), tuple(sorted((
            (ra, aa), (ra, ar), (rb, bc), (aa, aa), (aa, ar), (ar, ra), (ar, rb), (xx, xx)))))
        self.assertEqual(self.keeps(linked, store), tuple(sorted((ra, rb, aa, ar, bc))))
        self.assertEqual(linked(store[:2] + ((),)), ())
        self.assertEqual(linked(store[:2] + (((("x",), 9, (), (), 0),),)), (xx,))

    def test_empty(self):
        self.assertEqual([candidates(EMPTY_STORE, ("r",), 5), links(EMPTY_STORE), linked(EMPTY_STORE)], [(), (), ()])
        self.assertEqual(linked(((), (), (OPEN_ANCHOR,))), ())

    def test_all_pairs(self):
        for store, _ in worlds(200):
            told = [(one, other) for one, first in enumerate(store[0]) for other, second in enumerate(store[0])
                    if told_fits(second, first[2], first[3])]
            self.assertEqual(links(store), tuple(told))
            for name, key in {one[2:4] for one in store[0]} | {anchor[:2] for anchor in store[2]} | {(("q",), 0)}:
                found = tuple(at for at, one in enumerate(store[0]) if told_fits(one, name, key))
                self.assertEqual(candidates(store, name, key), found)
            found = {at for at, one in enumerate(store[0]) if any(told_fits(one, *anchor[:2]) for anchor in store[2])}
            for _ in store[0]:
                found |= {other for one, other in told if one in found}
            self.assertEqual(linked(store), tuple(sorted(found)))

    def test_errors(self):
        names = (NO_NAMES, InvalidName), (NO_KEYS, InvalidNumber)
        self.checks(fits_behind, (PLAIN, ("root",), 5), [(NO_CERTIFICATES, InvalidCertificate), *names])
        self.checks(candidates, (STORE, ("root",), 5), [(NO_STORES, InvalidStore), *names])
        for function in (links, linked):
            self.checks(function, (STORE,), [(NO_STORES, InvalidStore)])
