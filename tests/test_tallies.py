"""[30], [31]: tallies and spans."""

import unittest

from pointingreads.errors import BadPlace, BadReader, BadRow, TooGreat
from pointingreads.reading import read
from pointingreads.tallies import held_longest, points_newest, points_none, span, tally
from tests.helpers import (
    GREAT, NO_INTEGERS, Case, chance, chance_reader, chance_row, marks_of, slow_point, slow_reading,
    split_row)

FIRST = (2, (0, 1), (((1, (-1,)), (0, ())), ((1, (0,)), (1, (0,)))), (-1, 0))
LAST = (2, (0, 1), (((1, (-1,)), (1, (-1,))), ((1, (-1,)), (1, (-1,)))), (-1, 0))


class TalliesTest(Case):
    def test_short_rows(self):
        rng = chance(61)
        for _ in range(120):
            sorts = rng.randint(1, 3)
            reader = chance_reader(rng, sorts, rng.randint(1, 6), rng.randint(0, 4))
            row = chance_row(rng, sorts, 3, 3, 25)
            marks = marks_of(row)
            behind = [slow_reading(reader, marks[:many]) for many in range(len(marks) + 1)]
            told = [0] * len(reader[1])
            spans = [0] * len(marks)
            for stand, places in behind:
                told[stand] += 1
                for place in places:
                    spans[place] += 1
            self.assertEqual(tally(reader, row), tuple(told))
            points = [slow_point(reader, marks[:many]) for many in range(len(marks) + 1)]
            self.assertEqual(points_none(reader, row), points.count(None))
            newest = [many for many in range(1, len(points)) if points[many] == many - 1]
            self.assertEqual(points_newest(reader, row), len(newest))
            for place, many in enumerate(spans):
                self.assertEqual(span(reader, row, place), many)
            if len(marks) <= 300:
                told = (spans.index(max(spans)), max(spans)) if marks else None
                self.assertEqual(held_longest(reader, row), told)

    def test_great_rows(self):
        row = (((1, 0, 1), GREAT), ((0,), 5))
        self.assertEqual(tally(FIRST, row), (2, 3 * GREAT + 4))
        self.assertEqual(points_none(FIRST, row), 2)
        self.assertEqual(points_newest(FIRST, row), 1)
        self.assertEqual(points_newest(LAST, row), 3 * GREAT + 5)
        self.assertEqual(span(FIRST, row, 1), 3 * GREAT + 4)
        self.assertEqual(span(FIRST, row, 0), 0)
        self.assertEqual(span(FIRST, row, 2), 0)
        self.assertEqual(span(LAST, row, 3 * GREAT + 4), 1)
        self.assertEqual(span(LAST, row, GREAT), 1)
        self.assertEqual(tally(FIRST, ()), (1, 0))
        self.assertEqual(points_none(FIRST, ()), 1)
        self.assertEqual(points_newest(FIRST, ()), 0)

    def test_great_rows_in_two_writings(self):
        rng = chance(62)
        for _ in range(120):
            reader = chance_reader(rng, 2, 6, 3)
            row = chance_row(rng, 2, 3, 5, GREAT)
            other = split_row(rng, row)
            size = sum(len(marks) * times for marks, times in row)
            self.assertEqual(tally(reader, row), tally(reader, other))
            self.assertEqual(sum(tally(reader, row)), size + 1)
            self.assertEqual(points_none(reader, row), points_none(reader, other))
            self.assertEqual(points_newest(reader, row), points_newest(reader, other))
            held = read(reader, row)[1]
            for place in held + (0, size // 2, size - 1):
                if 0 <= place < size:
                    self.assertEqual(span(reader, row, place), span(reader, other, place))
            for place in held:
                self.assertEqual(span(reader, row, place), size - place)

    def test_what_turns_about_is_held(self):
        reader = (2, (0, 1, 2), (
            ((1, (-1,)),) * 2, ((2, (0, -1)),) * 2, ((2, (1, 0)), (2, (1, -1)))), (-1, 0, 0))
        row = (((0,), GREAT), ((1, 1), 1), ((0,), 9))
        self.assertEqual(span(reader, row, 1) + span(reader, row, 0), GREAT - 1 + GREAT + 1)
        self.assertEqual(span(reader, row, GREAT), 11)

    def test_held_longest(self):
        self.assertIsNone(held_longest(FIRST, ()))
        self.assertEqual(held_longest(FIRST, (((1,), 300),)), (0, 0))
        self.assertEqual(held_longest(FIRST, (((1,), 299), ((0,), 1))), (299, 1))
        self.assertEqual(held_longest(LAST, (((1,), 7),)), (0, 1))
        self.refuses(TooGreat, {"most": 300}, held_longest, FIRST, (((1,), 301),))

    def test_errors(self):
        row = (((1, 0), 2),)
        for place in NO_INTEGERS + (-1, 4):
            self.refuses(BadPlace, {"place": place}, span, FIRST, row, place)
        self.refuses(BadPlace, {"place": 0}, span, FIRST, (), 0)
        for function in (tally, points_none, points_newest, held_longest, lambda one, two: span(one, two, -1)):
            self.refuses(BadReader, {"word": "form", "stand": None}, function, 0, 0)
            self.refuses(BadRow, {"place": None}, function, FIRST, 0)
            self.refuses(BadRow, {"place": 1}, function, FIRST, row + (((2,), GREAT),))


if __name__ == "__main__":
    unittest.main()
