"""[37]: how many picks a row can have."""

import unittest

from pointingreads.climbs import most_picks, rise, two_picks
from pointingreads.errors import BadSieve
from tests.helpers import Case, chain_of, chance, chance_sieve, cycle_of, sieve_by, slow_picks, words


class ClimbsTest(Case):
    def check_rise(self, sieve, found):
        self.assertEqual(len(found), 3)
        for word in found:
            self.assertIs(word.__class__, tuple)
            self.assertLessEqual(len(word), 4096)
            self.assertTrue(all(mark.__class__ is int and 0 <= mark < sieve[0] for mark in word))
        ahead, again, behind = found
        for many in range(5):
            self.assertGreaterEqual(len(slow_picks(sieve, ahead + again * many + behind)), many)

    def test_chance_sieves(self):
        rng = chance(101)
        met = {}
        for _ in range(300):
            sorts = rng.randint(1, 3)
            sieve = chance_sieve(rng, sorts, rng.randint(1, 4), rng.randint(1, 4), rng.choice([0.03, 0.1, 0.3]))
            deep = {1: 10, 2: 8, 3: 5}[sorts]
            many = {word: len(slow_picks(sieve, word)) for word in words(sorts, deep)}
            most = most_picks(sieve)
            found = rise(sieve)
            met[most] = True
            self.assertIs(found is None, most is not None)
            if found is None:
                # these sieves are small enough to show their greatest number in short rows
                self.assertEqual(most, max(many.values()))
            else:
                self.check_rise(sieve, found)
            least = next((word for word in many if many[word] >= 2), None)
            word = two_picks(sieve)
            if least is not None or word is None:
                self.assertEqual(word, least)
            else:
                self.assertGreater(len(word), deep)
                self.assertGreaterEqual(len(slow_picks(sieve, word)), 2)
            self.assertIs(word is None, most in (0, 1))
        self.assertTrue({None, 0, 1, 2} <= set(met))

    def test_many_picks_but_not_more(self):
        chain = chain_of(1, 64)
        only = ((0,),)
        sieve = sieve_by(1, chain, only, lambda left, mark, right: left < 63)
        self.assertEqual(most_picks(sieve), 63)
        self.assertIsNone(rise(sieve))
        self.assertEqual(two_picks(sieve), (0, 0))
        sieve = sieve_by(1, chain, chain, lambda left, mark, right: left < 63 and right < 63)
        self.assertEqual(most_picks(sieve), 63)
        sieve = sieve_by(1, chain, chain, lambda left, mark, right: left < 63 or right < 63)
        self.assertEqual(most_picks(sieve), 126)

    def test_long_circles(self):
        sieve = sieve_by(
            2, cycle_of(2, 64, (0,)), cycle_of(2, 63, (0,)),
            lambda left, mark, right: (left, mark, right) == (63, 0, 62))
        self.assertIsNone(most_picks(sieve))
        self.check_rise(sieve, rise(sieve))
        self.assertEqual(len(rise(sieve)[1]), 64 * 63)
        word = two_picks(sieve)
        self.assertEqual(word, (0,) * (64 * 63 + 63 + 1 + 62))

    def test_all_entries(self):
        sieve = sieve_by(2, ((0, 0),), ((0, 0),), lambda left, mark, right: mark == 1)
        self.assertIsNone(most_picks(sieve))
        self.check_rise(sieve, rise(sieve))
        self.assertEqual(two_picks(sieve), (1, 1))
        sieve = sieve_by(2, ((0, 0),), ((0, 0),), lambda left, mark, right: False)
        self.assertEqual(most_picks(sieve), 0)
        self.assertIsNone(rise(sieve))
        self.assertIsNone(two_picks(sieve))

    def test_errors(self):
        for function in (most_picks, rise, two_picks):
            self.refuses(BadSieve, {"word": "form"}, function, None)
            self.refuses(BadSieve, {"word": "pick"}, function, (1, ((0,),), ((0,),), (((1,),),)))


if __name__ == "__main__":
    unittest.main()
