"""[14], [33]: the rules of sieves."""

import unittest

from pointingreads.errors import BadRow, BadSieve
from pointingreads.sieves import is_sieve, need_row_for, need_sieve, sieve_fault
from tests.helpers import GREAT, NO_INTEGERS, OTHERS, Case, chance, chance_sieve

ONE = (2, ((0, 1), (1, 1)), ((0, 0),), (((True,), (False,)), ((False,), (True,))))


def put(thing, way, value):
    if not way:
        return value
    return thing[:way[0]] + (put(thing[way[0]], way[1:], value),) + thing[way[0] + 1:]


class SieveRulesTest(Case):
    def fault(self, value, word):
        self.assertEqual(sieve_fault(value), word)
        self.assertIs(is_sieve(value), word is None)
        if word is None:
            self.assertIs(need_sieve(value), value)
        else:
            self.refuses(BadSieve, {"word": word}, need_sieve, value)

    def test_sieves(self):
        rng = chance(71)
        self.fault(ONE, None)
        for _ in range(50):
            self.fault(chance_sieve(rng, rng.randint(1, 4), rng.randint(1, 9), rng.randint(1, 9)), None)
        self.fault(chance_sieve(rng, 4, 64, 64), None)

    def test_form(self):
        rng = chance(72)
        for value in OTHERS + (3, (), ONE[:3], ONE + (0,), list(ONE)):
            self.fault(value, "form")
        for sorts in NO_INTEGERS + (0, 5, -1, 1, 3):
            self.fault(put(ONE, (0,), sorts), "form")
        for part in (1, 2, 3):
            for value in OTHERS + (3, (), (0,), list(ONE[part])):
                self.fault(put(ONE, (part,), value), "form")
                self.fault(put(ONE, (part, 0), value), "form")
        for value in OTHERS + (3, (), (True, True), [True]):
            self.fault(put(ONE, (3, 1, 1), value), "form")
        self.fault(put(ONE, (3,), ONE[3][:1]), "form")
        self.fault(put(ONE, (3,), ONE[3] + ONE[3][:1]), "form")
        self.fault(chance_sieve(rng, 1, 65, 1), "form")
        self.fault(chance_sieve(rng, 1, 1, 65), "form")

    def test_states(self):
        for value in NO_INTEGERS + (-1, 2):
            self.fault(put(ONE, (1, 1, 0), value), "left")
        for value in NO_INTEGERS + (-1, 1):
            self.fault(put(ONE, (2, 0, 1), value), "right")

    def test_truths(self):
        for value in (0, 1, None, "True", (), ODD_TRUTH):
            self.fault(put(ONE, (3, 1, 1, 0), value), "pick")

    def test_each_rule_ahead_of_the_next_one(self):
        bad = put(put(put(ONE, (1, 1, 0), 2), (2, 0, 0), 1), (3, 0, 0, 0), 1)
        self.fault(bad, "left")
        self.fault(put(bad, (1, 1, 0), 1), "right")
        self.fault(put(put(bad, (1, 1, 0), 1), (2, 0, 0), 0), "pick")
        self.fault(put(bad, (3, 0, 0), ()), "form")

    def test_rows(self):
        row = (((0, 1), GREAT),)
        self.assertIs(need_row_for(ONE, row), row)
        self.refuses(BadSieve, {"word": "form"}, need_row_for, None, None)
        for value in OTHERS + (3, (None,) * 61):
            self.refuses(BadRow, {"place": None}, need_row_for, ONE, value)
        self.refuses(BadRow, {"place": 1}, need_row_for, ONE, (((2,), 1), ((4,), 1)))
        self.refuses(BadRow, {"place": 1}, need_row_for, ONE, (((1,), 1), ((1, 2), 1), ((3,), 1)))


ODD_TRUTH = object()

if __name__ == "__main__":
    unittest.main()
