"""[45]: readers that are kept and covered, hands that are one."""

import unittest

from pointingreads.holding import is_covered, is_kept, one_hands, row_uncovered, row_unkept
from pointingreads.least import least_reader
from pointingreads.named import reader_named
from tests.helpers import (
    FIRST, LAST, Case, chance, chance_pair, holding_reader, mixed, slow_point, slow_reading, words)

DEEP = {1: 14, 2: 7, 3: 5, 4: 4}


def slow_hold(reader, other, deep):
    """Which hands are one in all words of a few marks."""
    found = {}
    for word in words(reader[0], deep):
        stand, places = slow_reading(reader, word)
        other_stand, other_places = slow_reading(other, word)
        one = {(hand, other_hand) for hand, place in enumerate(places)
               for other_hand, other_place in enumerate(other_places) if place == other_place}
        pair = (stand, other_stand)
        found[pair] = found[pair] & one if pair in found else one
    return found


class HoldingTest(Case):
    def test_kept_and_covered_against_slow(self):
        rng = chance(341)
        kept = covered = 0
        for _ in range(300):
            reader, other = chance_pair(rng, 4, 4, 3)
            deep = DEEP[reader[0]]
            least, other_least = least_reader(reader), least_reader(other)
            unkept = uncovered = None
            for word in words(reader[0], deep):
                place = slow_point(reader, word)
                if unkept is None and place is not None and place not in slow_reading(other, word)[1]:
                    unkept = word
                more = set(slow_reading(least, word)[1]) - set(slow_reading(other_least, word)[1])
                if uncovered is None and more:
                    uncovered = (word, min(more))
            word = row_unkept(reader, other)
            self.assertIs(is_kept(reader, other), word is None)
            self.assertTrue(word == unkept or (unkept is None and len(word) > deep))
            found = row_uncovered(reader, other)
            self.assertIs(is_covered(reader, other), found is None)
            self.assertTrue(found == uncovered or (uncovered is None and len(found[0]) > deep))
            kept += word is None
            covered += found is None
            if found is None:
                self.assertIsNone(word)
        self.assertGreater(kept, covered)
        self.assertGreater(covered, 60)

    def test_kept_is_of_the_other_reader_as_it_stands(self):
        # it holds the first entry of all rows, but points at none
        holds = (1, (0, 1), (((1, (-1,)),), ((1, (0,)),)), (-1, -1))
        first = reader_named("first", 1)
        self.assertIs(is_kept(first, holds), True)
        self.assertIs(is_kept(first, least_reader(holds)), False)
        self.assertEqual(row_unkept(first, least_reader(holds)), (0,))
        self.assertIs(is_covered(first, holds), False)
        self.assertEqual(row_uncovered(first, holds), ((0,), 0))
        self.assertIs(is_covered(holds, first), True)

    def test_named_readers(self):
        last, second = reader_named("last", 2), reader_named("second", 2)
        before = reader_named("next to last", 2)
        self.assertIs(is_kept(last, before), True)
        self.assertIs(is_covered(last, before), True)
        self.assertEqual(row_unkept(before, last), (0, 0))
        self.assertEqual(row_uncovered(before, last), ((0, 0), 0))
        self.assertEqual(row_unkept(last, second), (0,))
        self.assertEqual(row_unkept(second, last), (0, 0, 0))
        self.assertEqual(row_uncovered(second, last), ((0, 0, 0), 1))
        self.assertEqual(row_uncovered(FIRST, LAST), ((0, 0), 0))
        self.assertEqual(row_uncovered(LAST, FIRST), ((1,), 0))

    def test_one_hands_against_slow(self):
        rng = chance(342)
        some = 0
        for _ in range(200):
            reader, other = chance_pair(rng, 3, 4, 3)
            if rng.random() < 0.3:
                reader = holding_reader(rng, reader[0], 3, 2)
                other = mixed(rng, reader)
            deep = {1: 40, 2: 9, 3: 6}[reader[0]]
            slow = slow_hold(reader, other, deep)
            found = one_hands(reader, other)
            self.assertEqual(list(found), sorted(found))
            told = {(stand, other_stand): pairs for stand, other_stand, pairs in found}
            self.assertEqual(len(told), len(found))
            for pair in slow:
                self.assertEqual(list(told[pair]), sorted(slow[pair]))
                some += len(slow[pair])
        self.assertGreater(some, 100)

    def test_one_hands_of_two(self):
        self.assertEqual(one_hands(FIRST, LAST), ((0, 0, ()), (0, 1, ()), (1, 1, ())))
        self.assertEqual(one_hands(FIRST, FIRST), ((0, 0, ()), (1, 1, ((0, 0),))))
        before = reader_named("next to last", 1)
        self.assertIn((2, 2, ((0, 0), (1, 1))), one_hands(before, before))
        # long in agreement: only the longest way to the stands parts the hands
        many = 100
        steps = [((1, (-1,)), (0, ()))]
        for stand in range(1, many + 1):
            steps.append(((min(stand + 1, many), (0,)), (0, ())))
        one = (2, (0,) + (1,) * many, tuple(steps), (-1,) + (0,) * many)
        two = one[:2] + (one[2][:-1] + (((many, (-1,)), (0, ())),),) + one[3:]
        found = {(stand, other): pairs for stand, other, pairs in one_hands(one, two)}
        self.assertEqual(found[many - 1, many - 1], ((0, 0),))
        self.assertEqual(found[many, many], ())
        self.assertEqual(row_unkept(one, two), (0,) * (many + 1))

    def test_errors(self):
        for function in (one_hands, is_kept, row_unkept, is_covered, row_uncovered):
            self.refuses_two(function)


if __name__ == "__main__":
    unittest.main()
