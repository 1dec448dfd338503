"""[53], [49]: all small readers, and rows counted."""

import itertools
import unittest

from pointingreads.errors import BadNumber, TooGreat
from pointingreads.least import least_reader, stands_needed
from pointingreads.named import reader_named
from pointingreads.plenty import all_readers, places_hit, rows_none, rows_to
from tests.helpers import (
    FIRST, GREAT, NO_INTEGERS, Case, chance, chance_reader, holding_reader, slow_point, slow_reading, words)


def point_table(reader, deep):
    return tuple(slow_point(reader, word) for word in words(reader[0], deep))


class PlentyTest(Case):
    def test_all_readers(self):
        numbers = {}
        for sorts in (1, 2, 3, 4):
            for stands in (1, 2, 3):
                if sorts * stands > 4:
                    continue
                found = all_readers(sorts, stands)
                numbers[sorts, stands] = len(found)
                self.assertEqual(list(found), sorted(set(found)))
                for reader in found:
                    self.assertEqual(least_reader(reader), reader)
                    self.assertLessEqual(len(reader[1]), stands)
                # unlike least readers part in some short row
                tables = {point_table(reader, {1: 8, 2: 5}.get(sorts, 2)) for reader in found}
                self.assertEqual(len(tables), len(found))
        self.assertEqual(numbers, {(1, 1): 1, (1, 2): 4, (1, 3): 34, (2, 1): 1, (2, 2): 28, (3, 1): 1, (4, 1): 1})
        self.assertEqual(all_readers(2, 1), ((2, (0,), (((0, ()), (0, ())),), (-1,)),))
        self.assertIn(FIRST, all_readers(2, 2))

    def test_all_small_readers_are_there(self):
        rng = chance(381)
        for sorts, stands in ((1, 3), (2, 2), (1, 2)):
            found = all_readers(sorts, stands)
            seen = set()
            for _ in range(1500):
                make = rng.choice((chance_reader, holding_reader))
                reader = make(rng, sorts, rng.randint(1, 4), rng.randint(1, 3))
                if stands_needed(reader) <= stands:
                    self.assertIn(least_reader(reader), found)
                    seen.add(least_reader(reader))
            self.assertGreater(len(seen), len(found) // 2)

    def test_rows_against_slow(self):
        rng = chance(382)
        for _ in range(150):
            sorts = rng.randint(1, 4)
            make = rng.choice((chance_reader, holding_reader))
            reader = make(rng, sorts, rng.randint(1, 5), rng.randint(1, 3))
            number = rng.randint(0, {1: 12, 2: 7, 3: 5, 4: 4}[sorts])
            stands, none, hit = [0] * len(reader[1]), 0, [0] * number
            for word in itertools.product(range(sorts), repeat=number):
                stands[slow_reading(reader, word)[0]] += 1
                place = slow_point(reader, word)
                if place is None:
                    none += 1
                else:
                    hit[place] += 1
            for modulus in (1, 2, rng.randint(1, 50), GREAT):
                self.assertEqual(rows_to(reader, number, modulus), tuple(many % modulus for many in stands))
                self.assertEqual(rows_none(reader, number, modulus), none % modulus)
            self.assertEqual(places_hit(reader, number), tuple(hit))

    def test_great_numbers(self):
        rng = chance(383)
        prime = 10 ** 30 - 11
        for sorts in (1, 2, 3, 4):
            reader = holding_reader(rng, sorts, 6, 3)
            for number in (GREAT, GREAT - 1, 12345678901234567890):
                for modulus in (GREAT, prime, 7):
                    told = rows_to(reader, number, modulus)
                    self.assertEqual(sum(told) % modulus, pow(sorts, number, modulus))
                    self.assertTrue(all(0 <= many < modulus for many in told))
                    one, two = rows_to(reader, 10 ** 20, modulus), rows_to(reader, 10 ** 20 + 1, modulus)
                    behind = [0] * len(one)
                    for many, row in zip(one, reader[2]):
                        for there, _ in row:
                            behind[there] += many
                    self.assertEqual(two, tuple(many % modulus for many in behind))
                    self.assertEqual(rows_none(reader, number, modulus), sum(
                        many for many, hand in zip(told, reader[3]) if hand < 0) % modulus)
        self.assertEqual(rows_to(FIRST, GREAT, 97), (1, (pow(2, GREAT, 97) - 1) % 97))
        self.assertEqual(rows_none(FIRST, GREAT, 97), 1)
        self.assertEqual(rows_none(FIRST, GREAT, 1), 0)
        self.assertEqual(rows_to(FIRST, 0, 1), (0, 0))

    def test_places_of_a_hundred(self):
        self.assertEqual(places_hit(FIRST, 100), tuple(2 ** (99 - place) for place in range(100)))
        self.assertEqual(places_hit(reader_named("last", 4), 100), (0,) * 99 + (4 ** 100,))
        self.assertEqual(places_hit(FIRST, 0), ())

    def test_forty_and_forty_one_stands(self):
        for many in (40, 41, 200):
            steps = tuple(((min(stand + 1, many - 1), ()),) for stand in range(many))
            reader = (1, (0,) * many, steps, (-1,) * many)
            if many == 40:
                self.assertEqual(rows_to(reader, GREAT, GREAT), (0,) * 39 + (1,))
                self.assertEqual(rows_none(reader, 3, 5), 1)
            else:
                self.refuses(TooGreat, {"most": 40}, rows_to, reader, 0, 1)
                self.refuses(TooGreat, {"most": 40}, rows_none, reader, 0, 1)
            self.assertEqual(places_hit(reader, 3), (0, 0, 0))

    def test_errors(self):
        for value in NO_INTEGERS + (0, -1, 5, 10 ** 900):
            for stands in (1, None):
                self.refuses(BadNumber, {"value": value}, all_readers, value, stands)
        for value in NO_INTEGERS + (0, -1, 4, 10 ** 900):
            self.refuses(BadNumber, {"value": value}, all_readers, 1, value)
        for sorts, stands in ((2, 3), (3, 2), (4, 2), (4, 3)):
            self.refuses(BadNumber, {"value": stands}, all_readers, sorts, stands)
        big = (1, (0,) * 41, (((0, ()),),) * 41, (-1,) * 41)
        for function in (rows_to, rows_none):
            self.refuses_readers(function, 1, 1)
            for reader in (FIRST, big):
                for value in NO_INTEGERS + (-1, GREAT + 1):
                    for modulus in (1, None):
                        self.refuses(BadNumber, {"value": value}, function, reader, value, modulus)
                for value in NO_INTEGERS + (0, -1, GREAT + 1):
                    self.refuses(BadNumber, {"value": value}, function, reader, 0, value)
        self.refuses_readers(places_hit, 1)
        for value in NO_INTEGERS + (-1, 101):
            self.refuses(BadNumber, {"value": value}, places_hit, FIRST, value)


if __name__ == "__main__":
    unittest.main()
