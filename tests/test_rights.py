"""Uses, purposes, and who may seal: [13], [58]."""

import itertools

from chainpapers.certificates import with_part
from chainpapers.errors import InvalidCertificate, InvalidChain, InvalidPurposes
from chainpapers.rights import chain_purposes, may_seal, purposes_met, purposes_of, uses_of
from tests.support import Case, odd_values
from tests.things import FULL, PLAIN, SELF, WHOLE

USES = ("agree", "certs", "lists", "sign")
PURPOSES = ("call", "serve", "sign", "stamp")


def some_of(words):
    """All ascending tuples of some of these words."""
    return [chosen for many in range(len(words) + 1) for chosen in itertools.combinations(words, many)]


NO_CERTIFICATES = odd_values() + [WHOLE, FULL[:8], list(PLAIN)]
NO_CHAINS = odd_values() + [(), (PLAIN,) * 9, [PLAIN], PLAIN, (PLAIN, None), (PLAIN, WHOLE)]


class Rights(Case):
    def test_uses(self):
        self.assertEqual(self.keeps(uses_of, PLAIN), USES)
        for uses in some_of(USES):
            self.assertEqual(self.keeps(uses_of, with_part(PLAIN, "uses", uses)), uses)

    def test_purposes(self):
        self.assertEqual(self.keeps(purposes_of, PLAIN), PURPOSES)
        for purposes in some_of(PURPOSES):
            self.assertEqual(self.keeps(purposes_of, with_part(PLAIN, "purposes", purposes)), purposes)
            self.assertEqual(purposes_of(with_part(PLAIN, "purposes", ("any",) + purposes)), PURPOSES)

    def test_who_may_seal(self):
        for basic in (None, (False, -1), (True, -1), (True, 0)):
            for uses in [None] + some_of(USES):
                certificate = with_part(with_part(PLAIN, "basic", basic), "uses", uses)
                is_one = basic is not None and basic[0] and (uses is None or "certs" in uses)
                self.assertIs(may_seal(certificate), is_one, (basic, uses))

    def test_purposes_of_chains(self):
        for one in some_of(PURPOSES):
            first = with_part(PLAIN, "purposes", one)
            self.assertEqual(self.keeps(chain_purposes, (first,)), one)
            self.assertEqual(chain_purposes((first,) * 8), one)
            for other in some_of(PURPOSES):
                both = tuple(word for word in PURPOSES if word in one and word in other)
                second = with_part(SELF, "purposes", other)
                self.assertEqual(chain_purposes((first, second)), both)
                self.assertEqual(chain_purposes((second, PLAIN, first, FULL)), both)
                self.assertEqual(self.keeps(purposes_met, one, other), both)
        self.assertEqual(chain_purposes((PLAIN, SELF)), PURPOSES)

    def test_errors(self):
        no_purposes = odd_values(()) + [("any",), ("sign", "call"), ("sign", "sign"), ["sign"], ("certs",), ("any", "sign"),
                                        PURPOSES + ("time",), ("call", 1)]
        for function in (uses_of, purposes_of, may_seal):
            self.checks(function, (PLAIN,), [(NO_CERTIFICATES, InvalidCertificate)])
        self.checks(chain_purposes, ((PLAIN,),), [(NO_CHAINS, InvalidChain)])
        self.checks(purposes_met, ((), ()), [(no_purposes, InvalidPurposes), (no_purposes, InvalidPurposes)])
