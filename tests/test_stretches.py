"""[25]: periods, and where words stand."""

import unittest

from pointingreads.errors import BadMark, BadNumber, BadPlace, BadRow, TooGreat
from pointingreads.finding import found_at, times_found
from pointingreads.stretches import has_period, least_period, longest_stretch, stretch_end
from tests.helpers import GREAT, NO_INTEGERS, OTHERS, Case, chance, chance_row, chance_word, marks_of


def slow_period(marks, number):
    return all(marks[at] == marks[at + number] for at in range(len(marks) - number))


def slow_end(marks, place, number):
    stop = min(place + number, len(marks))
    while stop < len(marks) and marks[stop] == marks[stop - number]:
        stop += 1
    return stop


def slow_longest(marks, number):
    best = (0, 0)
    for start in range(len(marks)):
        stop = slow_end(marks, start, number)
        if stop - start > best[1] - best[0]:
            best = (start, stop)
    return best


class StretchesTest(Case):
    def rows(self, seed, times):
        rng = chance(seed)
        for _ in range(150):
            yield rng, chance_row(rng, rng.choice([1, 2, 2, 3]), 4, 4, times)

    def test_periods(self):
        for rng, row in self.rows(21, 20):
            marks = marks_of(row)
            told = [number for number in range(1, 61) if slow_period(marks, number)]
            self.assertEqual([number for number in range(1, 61) if has_period(row, number)], told)
            self.assertEqual(least_period(row), told[0] if told else None)

    def test_edges_of_periods(self):
        self.assertEqual(least_period(()), 1)
        self.assertIs(has_period((), 60), True)
        word = (0,) * 59 + (1,)
        self.assertEqual(least_period(((word, GREAT),)), 60)
        self.assertIs(has_period(((word, GREAT),), 59), False)
        self.assertIs(has_period(((word, GREAT),), 60), True)
        self.assertIs(has_period(((word, 1),), 60), True)
        self.assertEqual(least_period((((0,), 59), ((1,), 1))), 60)
        self.assertIsNone(least_period((((0,), 60), ((1,), 1))))
        self.assertEqual(least_period((((0, 1), GREAT), ((0,), 1))), 2)
        self.assertIsNone(least_period((((0, 1), GREAT), ((1,), 1))))

    def test_stretch_end(self):
        for rng, row in self.rows(22, 12):
            marks = marks_of(row)
            for number in (1, 2, 3, 4, 6, 59, 60):
                for place in range(0, len(marks) + 1, 3):
                    self.assertEqual(stretch_end(row, place, number), slow_end(marks, place, number))
                self.assertEqual(stretch_end(row, len(marks), number), len(marks))

    def test_longest_stretch(self):
        for rng, row in self.rows(23, 40):
            marks = marks_of(row)
            for number in (1, 2, 3, 4, 6, 12, 60):
                self.assertEqual(longest_stretch(row, number), slow_longest(marks, number), row)
        for rng, row in self.rows(24, 200):
            row = row[:2]
            for number in (1, 2, 3, 5):
                self.assertEqual(longest_stretch(row, number), slow_longest(marks_of(row), number), row)

    def test_great_stretches(self):
        row = (((0, 1), GREAT), ((2,), 1), ((0, 1), GREAT))
        self.assertEqual(longest_stretch(row, 2), (0, 2 * GREAT))
        self.assertEqual(longest_stretch(row, 1), (0, 1))
        self.assertEqual(longest_stretch(row, 3), (2 * GREAT - 2, 2 * GREAT + 3))
        self.assertEqual(longest_stretch(row[1:], 2), (1, 2 * GREAT + 1))
        self.assertEqual(longest_stretch(row[1:] + row[2:], 2), (1, 4 * GREAT + 1))
        self.assertEqual(longest_stretch((((1,), 1), ((0, 1), GREAT)), 2), (0, 2 * GREAT + 1))
        self.assertEqual(longest_stretch((((0, 0, 1), GREAT), ((1,), 3)), 1), (3 * GREAT - 1, 3 * GREAT + 3))
        self.assertEqual(stretch_end(row, 7, 2), 2 * GREAT)
        self.assertEqual(stretch_end(row, 2 * GREAT, 2), 2 * GREAT + 2)
        self.assertEqual(stretch_end(row, 2 * GREAT + 1, 60), 4 * GREAT + 1)
        word = (0,) * 59 + (1,)
        self.assertEqual(longest_stretch(((word, GREAT),), 60), (0, 60 * GREAT))
        self.assertEqual(longest_stretch(((word, GREAT),) * 60, 60), (0, 3600 * GREAT))
        self.assertEqual(longest_stretch((), 5), (0, 0))
        self.assertEqual(longest_stretch((((0, 1), 2),), 60), (0, 4))

    def test_errors(self):
        row = (((0, 1), 3),)
        for function in (has_period, longest_stretch):
            for number in NO_INTEGERS + (0, 61, -1):
                self.refuses(BadNumber, {"value": number}, function, row, number)
            self.refuses(BadRow, {"place": None}, function, None, 0)
        for number in NO_INTEGERS + (0, 61, -1):
            self.refuses(BadNumber, {"value": number}, stretch_end, row, 6, number)
        for place in NO_INTEGERS + (-1, 7):
            self.refuses(BadPlace, {"place": place}, stretch_end, row, place, 0)
        self.refuses(BadRow, {"place": 0}, stretch_end, (1,), -1, 0)
        self.refuses(BadRow, {"place": 0}, least_period, (1,))


class FindingTest(Case):
    def test_short_rows(self):
        rng = chance(25)
        for _ in range(400):
            sorts = rng.choice([1, 2, 2, 3])
            row = chance_row(rng, sorts, 4, 4, 8)
            marks = marks_of(row)
            word = chance_word(rng, sorts, 5)
            if marks and rng.random() < 0.5:
                at = rng.randrange(len(marks))
                word = marks[at:at + rng.randint(1, 30)]
            places = [
                at for at in range(len(marks) - len(word) + 1) if marks[at:at + len(word)] == word]
            self.assertEqual(times_found(row, word), len(places))
            self.assertEqual([found_at(row, word, number) for number in range(len(places))], places)
            self.assertIsNone(found_at(row, word, len(places)))
            self.assertIsNone(found_at(row, word, 10 ** 50))

    def test_the_empty_word(self):
        self.assertEqual(times_found((), ()), 1)
        self.assertEqual(found_at((), (), 0), 0)
        self.assertIsNone(found_at((), (), 1))
        row = (((0, 1), GREAT),)
        self.assertEqual(times_found(row, ()), 2 * GREAT + 1)
        self.assertEqual(found_at(row, (), 2 * GREAT), 2 * GREAT)
        self.assertIsNone(found_at(row, (), 2 * GREAT + 1))
        self.assertEqual(times_found((), (0,)), 0)

    def test_great_rows(self):
        row = (((0, 1), GREAT), ((0,), GREAT))
        self.assertEqual(times_found(row, (0, 1, 0)), GREAT)
        self.assertEqual(times_found(row, (1, 0, 0)), 1)
        self.assertEqual(found_at(row, (1, 0, 0), 0), 2 * GREAT - 1)
        self.assertEqual(times_found(row, (0,) * 60), GREAT - 59)
        self.assertEqual(found_at(row, (0,) * 60, 0), 2 * GREAT)
        self.assertEqual(found_at(row, (0,) * 60, GREAT - 60), 3 * GREAT - 60)
        self.assertIsNone(found_at(row, (0,) * 60, GREAT - 59))
        self.assertEqual(found_at(row, (0,), GREAT), 2 * GREAT)
        self.assertEqual(found_at(row, (0,), GREAT - 1), 2 * GREAT - 2)
        single = tuple(((number % 2,), 1) for number in range(60))
        self.assertEqual(times_found(single, (0, 1) * 30), 1)
        self.assertEqual(times_found(single, (1, 0) * 29), 1)
        full = tuple(((0, 1) * 30, GREAT) for _ in range(60))
        self.assertEqual(times_found(full, (0, 1) * 30), 1800 * GREAT - 29)
        self.assertEqual(found_at(full, (1, 0), 1800 * GREAT - 2), 3600 * GREAT - 3)

    def test_errors(self):
        row = (((0, 1), 3),)
        for value in OTHERS + (0, (0,) * 20001):
            self.refuses(BadMark, {"mark": value}, times_found, row, value)
            self.refuses(BadMark, {"mark": value}, found_at, row, value, -1)
        self.refuses(BadMark, {"mark": 4}, times_found, row, (0,) * 61 + (4, 5))
        self.refuses(BadMark, {"mark": True}, times_found, row, (0, True))
        self.refuses(TooGreat, {"most": 60}, times_found, row, (0,) * 61)
        self.refuses(TooGreat, {"most": 60}, found_at, row, (0,) * 20000, 0)
        for number in NO_INTEGERS + (-1,):
            self.refuses(BadNumber, {"value": number}, found_at, row, (0,) * 61, number)
        self.refuses(BadRow, {"place": None}, found_at, 1, 2, 3)
        self.refuses(BadRow, {"place": 0}, times_found, (((0, 1), 0),), 2)


if __name__ == "__main__":
    unittest.main()
