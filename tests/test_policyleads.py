"""Where pairs and rows lead: [68], and what [3] says of two lots of pairs."""

import random

from chainpapers.errors import InvalidNumbers, InvalidPath, InvalidState
from chainpapers.policyleads import led_on, policy_leads
from chainpapers.policysteps import policy_start
from tests.chains import made
from tests.policies import OPEN, questions, some_numbers, some_path, told_ahead, told_kept, told_origin, told_rows
from tests.support import Case
from tests.test_policyorder import ALL_KEPT
from tests.test_policyparts import NO_NUMBERS
from tests.test_policypapers import told_led
from tests.test_policysteps import NO_STATES, START
from tests.test_rights import NO_CHAINS
from tests.things import PLAIN


class Leads(Case):
    def test_led_from_the_start(self):
        for numbers, path in questions(300):
            ahead = told_ahead(numbers, path)
            kept = told_kept(numbers, path + (made(),), len(path))
            self.assertEqual(self.keeps(led_on, policy_start(numbers), path), (kept, ahead[-1]))

    def test_led_from_any_state(self):
        for seed in range(500):
            source = random.Random(seed)
            numbers, path, kept = some_numbers(source), some_path(source), source.choice(ALL_KEPT)
            pairs = set(kept)
            for certificate, ahead in zip(path, told_ahead(numbers, path)):
                pairs = told_led(pairs, ahead, certificate, False)
            self.assertEqual(led_on((kept, numbers), path), (tuple(sorted(pairs)), told_ahead(numbers, path)[-1]))

    def test_two_lots_lead_to_what_each_leads_to(self):
        seen = 0
        for seed in range(500):
            source = random.Random(seed)
            numbers, path = some_numbers(source), some_path(source)
            one, other = source.choice(ALL_KEPT), source.choice(ALL_KEPT)
            both = tuple(sorted(set(one + other)))
            each = [led_on((kept, numbers), path) for kept in (one, other)]
            self.assertEqual(led_on((both, numbers), path), (tuple(sorted(set(each[0][0] + each[1][0]))), each[0][1]))
            seen += each[0][0] != each[1][0]
        self.assertGreater(seen, 50)

    def test_ask_does_not_matter(self):
        self.assertEqual(led_on(policy_start((0, 0, 0)), (made(), made())), ((), (0, 0, 0)))
        self.assertEqual(led_on(((), (5, 1, -1)), (made(),) * 8), ((), (0, 0, -1)))

    def test_leads(self):
        for numbers, path in questions(400):
            pairs = tuple(sorted({(told_origin(row), row[-1]) for row in told_rows(numbers, path, len(path))}))
            self.assertEqual(self.keeps(policy_leads, numbers, path), pairs)
        self.assertEqual(policy_leads(OPEN, (made({"policies": ("any", "p"), "mappings": (("p", "q"),)}),)),
                         (("any", "any"), ("p", "p")))

    def test_the_most_pairs(self):
        kept = tuple((f"o{at:03d}", "x") for at in range(1000))
        chain = [made({"policies": ("any",), "mappings": tuple(("x", f"y{at}") for at in range(8))})]
        chain.append(made({"policies": ("any",), "mappings": tuple(("y0", f"z{at}") for at in range(8))}))
        found = led_on((kept, OPEN), tuple(chain))
        self.assertEqual((len(found[0]), found[1]), (15000, OPEN))

    def test_errors(self):
        self.checks(led_on, (START, (PLAIN,)), [(NO_STATES, InvalidState), (NO_CHAINS, InvalidPath)])
        self.checks(policy_leads, (OPEN, (PLAIN,)), [(NO_NUMBERS, InvalidNumbers), (NO_CHAINS, InvalidPath)])
