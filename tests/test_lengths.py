"""The numbers of arrows of ways, and unions of rests: help for [46], [47]."""

import math
import unittest

from pointingreads.lengths import Lengths
from pointingreads.residues import are_all_among, is_among, least_period
from tests.helpers import Case, chance


def reached(starts, arrows):
    found = list(starts)
    for node in found:
        found.extend(set(arrows[node]) - set(found))
    return set(found)


def chance_ways(rng):
    """Arrows between nodes, starts and ends; each node is on a way from a start to an end."""
    many = rng.randint(1, 12)
    arrows = [sorted({rng.randrange(many) for _ in range(rng.choice((0, 1, 1, 1, 2)))}) for _ in range(many)]
    back = [[node for node in range(many) if at in arrows[node]] for at in range(many)]
    starts = rng.sample(range(many), rng.randint(1, min(2, many)))
    ends = rng.sample(range(many), rng.randint(1, min(2, many)))
    kept = sorted(reached(starts, arrows) & reached(ends, back))
    rng.shuffle(kept)
    told = [[kept.index(behind) for behind in arrows[node] if behind in kept] for node in kept]
    return told, [kept.index(node) for node in starts if node in kept], [
        kept.index(node) for node in ends if node in kept]


class LengthsTest(Case):
    def test_against_slow(self):
        rng = chance(511)
        endless = 0
        for _ in range(1200):
            arrows, starts, ends = chance_ways(rng)
            layer, slow = set(starts), []
            for _ in range(300):
                slow.append(bool(layer & set(ends)))
                layer = {behind for node in layer for behind in arrows[node]}
            told = Lengths(arrows, starts, ends)
            for many in [rng.randrange(300) for _ in range(3)] + list(range(300)):
                self.assertIs(told.has(many), slow[many])
            told = Lengths(arrows, starts, ends)
            some = [many for many, comes in enumerate(slow) if comes]
            ended = not any(slow[150:])
            endless += not ended
            self.assertEqual(told.least(), some[0] if some else None)
            self.assertEqual(told.greatest(), some[-1] if some and ended else None)
            rests = slow[150:]
            period = min(
                many for many in range(1, 140)
                if all(one == two for one, two in zip(rests, rests[many:])))
            self.assertEqual(least_period(told.end_rests, 1999), period)
        self.assertGreater(endless, 200)

    def test_rests_against_slow(self):
        rng = chance(512)
        for _ in range(600):
            rests = [(divisor, rng.randrange(1, 1 << divisor))
                     for divisor in rng.sample(range(1, 13), rng.randint(0, 4))]
            whole = math.lcm(*[divisor for divisor, _ in rests])
            comes = [any(mask >> number % divisor & 1 for divisor, mask in rests) for number in range(2 * whole)]
            self.assertEqual([is_among(rests, number) for number in range(2 * whole)], comes)
            period = min(many for many in range(1, whole + 1) if whole % many == 0 and all(
                comes[number] == comes[number + many] for number in range(whole)))
            self.assertEqual(least_period(rests, 1999), period if period <= 1999 else None)
            self.assertEqual(least_period(rests, period), period)
            self.assertIsNone(least_period(rests, period - 1))
            divisor = rng.randint(1, 12)
            rest = rng.randrange(divisor)
            self.assertIs(are_all_among(divisor, rest, rests), all(
                comes[number % whole] for number in range(rest, math.lcm(whole, divisor), divisor)))

    def test_many_divisors(self):
        # one full divisor among many is all that counts
        primes = (5, 7, 11, 13, 17, 19, 23, 29, 31)
        rests = [(prime, 1) for prime in primes]
        self.assertIsNone(least_period(rests, 1999))
        self.assertEqual(least_period(rests + [(6, 63)], 1999), 1)
        self.assertEqual(least_period([(prime, (1 << prime) - 1) for prime in primes], 1999), 1)
        self.assertEqual(least_period([(2, 1), (4, 2), (8, 8), (8, 128)], 1999), 1)


if __name__ == "__main__":
    unittest.main()
