"""[19], [23], [24]: where rows part, their order, roots."""

import math
import unittest

from pointingreads.comparing import common_end, first_unlike, is_ahead, read_alike
from pointingreads.errors import BadRow
from pointingreads.roots import common_root, commute, root
from tests.helpers import GREAT, OTHERS, Case, chance, chance_row, marks_of, split_row


def slow_unlike(one, other):
    for place in range(max(len(one), len(other)) + 1):
        if one[place:place + 1] != other[place:place + 1]:
            return place
    return None


def slow_root(marks):
    for length in range(1, len(marks) + 1):
        if len(marks) % length == 0 and marks[:length] * (len(marks) // length) == marks:
            return (length, len(marks) // length)
    return (0, 1)


class ComparingTest(Case):
    def pairs(self):
        rng = chance(11)
        for number in range(400):
            sorts = rng.choice([1, 2, 4])
            row = chance_row(rng, sorts, 4, 4, 30)
            if number % 2:
                other = split_row(rng, row)
                if number % 4 == 1 and other:
                    at = rng.randrange(len(other))
                    other = other[:at] + ((other[at][0], other[at][1] + 1),) + other[at + 1:]
            else:
                other = chance_row(rng, sorts, 4, 4, 30)
            yield row, other, marks_of(row), marks_of(other)

    def test_first_unlike(self):
        for row, other, one, two in self.pairs():
            told = slow_unlike(one, two)
            self.assertEqual(first_unlike(row, other), told)
            self.assertIs(read_alike(row, other), told is None)

    def test_order(self):
        for row, other, one, two in self.pairs():
            self.assertIs(is_ahead(row, other), (len(one), one) < (len(two), two))
        self.assertIs(is_ahead((), ()), False)
        self.assertIs(is_ahead((), (((0,), 1),)), True)
        self.assertIs(is_ahead((((3,), 1),), (((0,), 2),)), True)

    def test_common_end(self):
        for row, other, one, two in self.pairs():
            told = slow_unlike(one[::-1], two[::-1])
            self.assertEqual(common_end(row, other), len(one) if told is None else told)
        self.assertEqual(common_end((((0, 1), 3),), (((1,), 1), ((0, 1), 1))), 3)
        self.assertEqual(common_end((((1, 1), 3),), ()), 0)

    def test_great_rows(self):
        one = (((0, 1), GREAT), ((2,), 1))
        two = (((0, 1, 0, 1), GREAT // 2), ((2,), 1))
        self.assertIsNone(first_unlike(one, two))
        self.assertIs(read_alike(one, two), True)
        three = (((0, 1, 0, 1), GREAT // 2 - 1), ((0, 1, 0, 2), 1), ((2,), 1))
        self.assertEqual(first_unlike(one, three), 2 * GREAT - 1)
        self.assertIs(is_ahead(one, three), True)
        self.assertIs(is_ahead(three, one), False)
        self.assertEqual(common_end(one, three), 1)
        self.assertEqual(first_unlike(one, one[:1]), 2 * GREAT)
        shifted = (((0,), 1), ((1, 0), GREAT - 1), ((1, 2), 1))
        self.assertIsNone(first_unlike(one, shifted))
        long_one = (((0,) * 59 + (1,), GREAT),)
        long_two = (((0,) * 58 + (1,), GREAT),)
        self.assertEqual(first_unlike(long_one, long_two), 58)
        near = (((0,) * 60, GREAT), ((1,), 1))
        self.assertEqual(first_unlike(near, (((0,) * 59, GREAT), ((0,), GREAT), ((2,), 1))), 60 * GREAT)
        full = tuple(((0, 1) * 30, GREAT) for _ in range(60))
        other = tuple(((0, 1) * 20, GREAT) for _ in range(60))
        self.assertEqual(first_unlike(full, other), 2400 * GREAT)

    def test_errors(self):
        row = (((0,), 1),)
        for function in (first_unlike, read_alike, is_ahead, common_end, commute, common_root):
            for value in OTHERS + (4, (None,) * 61):
                self.refuses(BadRow, {"place": None}, function, value, value)
                self.refuses(BadRow, {"place": None}, function, row, value)
            self.refuses(BadRow, {"place": 1}, function, row + row[0], None)
            self.refuses(BadRow, {"place": 0}, function, row, ((0,), 1))
        self.refuses(BadRow, {"place": None}, root, [])
        self.refuses(BadRow, {"place": 1}, root, row + (((), 1),))


class RootsTest(Case):
    def test_short_rows(self):
        rng = chance(12)
        for _ in range(300):
            sorts = rng.choice([1, 2])
            row = chance_row(rng, sorts, 3, 4, 12)
            if rng.random() < 0.7:
                row = row * rng.randint(1, 4)
            self.assertEqual(root(row), slow_root(marks_of(row)))
        self.assertEqual(root(()), (0, 1))
        self.assertEqual(root((((0,), 1),)), (1, 1))

    def test_roots_of_many_lengths(self):
        for length in (1, 2, 59, 60):
            marks = (0,) * (length - 1) + (1,)
            self.assertEqual(root(((marks, GREAT),)), (length, GREAT))
        # longer than a block: the root is done 2, 30 and 20 times
        half = (((0,), 100), ((1,), 1))
        self.assertEqual(root(half * 2), (101, 2))
        self.assertEqual(root(half * 30), (101, 30))
        third = (((0,), GREAT), ((1,), 1), ((0,), GREAT))
        self.assertEqual(root(third * 20), (2 * GREAT + 1, 20))
        self.assertEqual(root(third * 19 + half), (19 * (2 * GREAT + 1) + 101, 1))

    def test_great_rows(self):
        self.assertEqual(root((((0, 1) * 30, GREAT),) * 60), (2, 30 * 60 * GREAT))
        self.assertEqual(
            root((((0, 1) * 30, GREAT),) * 59 + (((0, 1) * 29 + (1, 0), GREAT),)), (3600 * GREAT, 1))
        self.assertEqual(root((((0, 1, 0), GREAT), ((0, 1, 0, 0, 1, 0), 7))), (3, GREAT + 14))
        # a root of 61 entries may stand in blocks of 60 marks and less
        word = (0,) * 60 + (1,)
        row = tuple((tuple(word * 60)[at:at + 60], 1) for at in range(0, 3600, 60))
        self.assertEqual(root(row), (3600, 1))
        whole = (((0,) * 60, 1), ((1,), 1)) * 30
        self.assertEqual(root(whole), (61, 30))

    def test_commute(self):
        rng = chance(13)
        for number in range(300):
            base = chance_row(rng, 2, 1, 3, 2)
            row = tuple((marks, times * rng.randint(1, 4)) for marks, times in base)
            other = base * rng.randint(0, 3)
            if number % 3 == 0:
                other = chance_row(rng, 2, 2, 3, 3)
            one, two = marks_of(row), marks_of(other)
            told = one + two == two + one
            self.assertIs(commute(row, other), told)
            self.assertEqual(common_root(row, other), math.gcd(len(one), len(two)) if told else None)

    def test_common_root(self):
        self.assertEqual(common_root((), ()), 0)
        self.assertEqual(common_root((((0, 1), 3),), ()), 6)
        self.assertEqual(common_root((), (((0, 1), GREAT),)), 2 * GREAT)
        self.assertEqual(common_root((((0, 1), 6),), (((0, 1, 0, 1), 2),)), 4)
        self.assertEqual(common_root((((0, 1), 6 * 10 ** 20),), (((0, 1, 0, 1), 10 ** 20),)), 4 * 10 ** 20)
        self.assertIsNone(common_root((((0, 1), 6),), (((1, 0), 6),)))
        full = tuple(((0, 1, 2) * 20, GREAT) for _ in range(60))
        self.assertIs(commute(full, full[:7]), True)
        self.assertEqual(common_root(full, full[:7]), 60 * GREAT)


if __name__ == "__main__":
    unittest.main()
