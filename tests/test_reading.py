"""[12], [28]: what readers read."""

import unittest

from pointingreads.errors import BadPaper, BadReader, BadRow, TooGreat
from pointingreads.reading import (
    end_point, first_reading, go_on, mark_pointed, point, points_along, read)
from tests.helpers import (
    GREAT, NO_INTEGERS, OTHERS, Case, as_row, chance, chance_reader, chance_row, chance_word, marks_of,
    slow_point, slow_reading, split_row)

FIRST = (2, (0, 1), (((1, (-1,)), (0, ())), ((1, (0,)), (1, (0,)))), (-1, 0))
LAST = (2, (0, 1), (((1, (-1,)), (1, (-1,))), ((1, (-1,)), (1, (-1,)))), (-1, 0))
# turns three hands about at each mark 0, and takes the new entry into hand 0 at each mark 1
TURNING = (2, (0, 1, 2, 3), (
    ((1, (-1,)), (1, (-1,))), ((2, (0, -1)), (2, (0, -1))), ((3, (0, 1, -1)), (3, (0, 1, -1))),
    ((3, (1, 2, 0)), (3, (-1, 1, 2)))), (-1, 0, 0, 0))


class ReadingTest(Case):
    def test_short_rows(self):
        rng = chance(51)
        for _ in range(300):
            sorts = rng.randint(1, 4)
            reader = chance_reader(rng, sorts, rng.randint(1, 8), rng.randint(0, 4))
            row = chance_row(rng, sorts, 4, 4, 60)
            marks = marks_of(row)
            self.assertEqual(read(reader, row), slow_reading(reader, marks))
            place = slow_point(reader, marks)
            self.assertEqual(point(reader, row), place)
            self.assertEqual(mark_pointed(reader, row), None if place is None else marks[place])

    def test_great_rows(self):
        row = (((1, 1, 0), GREAT), ((1,), GREAT))
        self.assertEqual(read(FIRST, row), (1, (2,)))
        self.assertEqual(point(LAST, row), 4 * GREAT - 1)
        self.assertEqual(mark_pointed(LAST, row), 1)
        self.assertEqual(mark_pointed(FIRST, row), 0)
        self.assertIsNone(point(FIRST, row[1:]))
        self.assertIsNone(mark_pointed(FIRST, row[1:]))
        self.assertEqual(read(TURNING, (((0,), GREAT),)), (3, (1, 2, 0)))
        self.assertEqual((GREAT - 3) % 3, 1)
        self.assertEqual(read(TURNING, (((0,), GREAT - 1),)), (3, (0, 1, 2)))
        full = tuple(((1, 0) * 30, GREAT) for _ in range(60))
        self.assertEqual(point(LAST, full), 3600 * GREAT - 1)

    def test_great_rows_in_two_writings(self):
        rng = chance(52)
        for _ in range(200):
            sorts = rng.randint(1, 3)
            reader = chance_reader(rng, sorts, rng.randint(2, 9), rng.randint(1, 4))
            row = chance_row(rng, sorts, 3, 5, GREAT)
            self.assertEqual(read(reader, row), read(reader, split_row(rng, row)))

    def test_a_row_of_all_blocks_by_halves(self):
        rng = chance(53)
        for _ in range(60):
            reader = chance_reader(rng, 2, 7, 3)
            marks = tuple(rng.randrange(2) for _ in range(rng.randint(1, 9)))
            # 2 ** 60 times, by doubling what one repetition does to each stand and hand
            times = 2 ** 60
            stand, places = slow_reading(reader, marks * 64)
            lot = {
                at: slow_reading(reader, marks, at, tuple(range(-1, -1 - reader[1][at], -1)), 0)
                for at in range(7)}
            size = len(marks)
            for _ in range(60):
                double = {}
                for at, (there, held) in lot.items():
                    end, later = lot[there]
                    double[at] = (end, tuple(
                        size + place if place >= 0 else held[-1 - place] for place in later))
                lot = double
                size *= 2
            self.assertEqual(read(reader, ((marks, times),)), lot[0])
            self.assertEqual(read(reader, ((marks, 64),)), (stand, places))

    def test_points_along(self):
        rng = chance(54)
        for _ in range(100):
            reader = chance_reader(rng, 2, 5, 3)
            marks = chance_word(rng, 2, 20)
            told = tuple(slow_point(reader, marks[:many]) for many in range(len(marks) + 1))
            self.assertEqual(points_along(reader, as_row(marks)), told)
        self.assertEqual(points_along(LAST, ()), (None,))
        self.assertEqual(len(points_along(LAST, (((0,), 300),))), 301)
        self.refuses(TooGreat, {"most": 300}, points_along, LAST, (((0,), 301),))
        self.refuses(BadRow, {"place": 1}, points_along, LAST, (((0,), 301), ((2,), 1)))

    def test_errors(self):
        for function in (read, point, mark_pointed, points_along):
            self.refuses(BadReader, {"word": "form", "stand": None}, function, None, None)
            self.refuses(BadReader, {"word": "held", "stand": 1}, function, (2, (0, 9)) + FIRST[2:], None)
            for value in OTHERS + (1, (None,) * 61):
                self.refuses(BadRow, {"place": None}, function, FIRST, value)
            self.refuses(BadRow, {"place": 1}, function, FIRST, (((3,), 1), ((0,), True)))
            self.refuses(BadRow, {"place": 1}, function, FIRST, (((1,), 1), ((2,), 1), ((3,), 1)))


class GoingOnTest(Case):
    def test_parts(self):
        rng = chance(55)
        for _ in range(100):
            reader = chance_reader(rng, 2, 6, 3)
            one, two = chance_row(rng, 2, 3, 4, GREAT), chance_row(rng, 2, 3, 4, GREAT)
            self.assertEqual(first_reading(reader), (0, (), 0))
            middle = go_on(reader, first_reading(reader), one)
            self.assertEqual(middle[:2], read(reader, one))
            self.assertEqual(end_point(reader, middle), point(reader, one))
            end = go_on(reader, middle, two)
            self.assertEqual(end[:2], read(reader, one + two))
            self.assertEqual(end[2], sum(len(marks) * times for marks, times in one + two))
            self.assertEqual(end_point(reader, end), point(reader, one + two))

    def test_readings_to_which_no_row_leads(self):
        reading = (3, (10 ** 40 - 1, 5, 10 ** 39), 10 ** 40)
        self.assertEqual(go_on(TURNING, reading, ()), reading)
        self.assertEqual(end_point(TURNING, reading), 10 ** 40 - 1)
        reading = (3, (7, 5, 6), 10 ** 40 - 2)
        self.assertEqual(go_on(TURNING, reading, (((0, 1), 1),)), (3, (10 ** 40 - 1, 6, 7), 10 ** 40))
        stray = (1, (0, 2), (((0, ()),), ((1, (1, 0)),)), (-1, 0))
        self.assertEqual(go_on(stray, (1, (4, 0), 5), (((0,), 7),)), (1, (0, 4), 12))

    def test_too_great(self):
        reading = (1, (0,), 10 ** 40)
        self.assertEqual(go_on(FIRST, reading, ()), reading)
        self.refuses(TooGreat, {"most": 10 ** 40}, go_on, FIRST, reading, (((0,), 1),))
        self.refuses(BadRow, {"place": 0}, go_on, FIRST, reading, (((2,), 1),))
        reading = (1, (0,), 10 ** 40 - 3)
        self.assertEqual(go_on(LAST, reading, (((0,), 3),)), (1, (10 ** 40 - 1,), 10 ** 40))
        self.refuses(TooGreat, {"most": 10 ** 40}, go_on, LAST, reading, (((0,), 4),))

    def test_errors(self):
        bad = OTHERS + (
            3, (), (0, ()), (0, (), 0, 0), [0, (), 0], (2, (), 0), (-1, (), 0), (True, (0,), 1), (1, (0,), 0),
            (1, (1,), 1), (1, (-1,), 1), (1, (0,), True), (1, (False,), 1), (1, [0], 1), (1, (), 1),
            (1, (0, 1), 2), (1, (0,), 10 ** 40 + 1), (0, (), -1), (0, (), None), (1, (None,), 1))
        for value in bad:
            self.refuses(BadPaper, {"word": "reading"}, go_on, FIRST, value, None)
            self.refuses(BadPaper, {"word": "reading"}, end_point, FIRST, value)
        for value in NO_INTEGERS:
            self.refuses(BadPaper, {"word": "reading"}, end_point, FIRST, (value, (0,), 1))
            self.refuses(BadPaper, {"word": "reading"}, end_point, FIRST, (1, (0,), value))
        self.refuses(BadPaper, {"word": "reading"}, go_on, TURNING, (2, (1, 1), 4), ())
        for function in (first_reading, lambda reader: end_point(reader, 0), lambda reader: go_on(reader, 0, 0)):
            self.refuses(BadReader, {"word": "form", "stand": None}, function, ())
        self.refuses(BadRow, {"place": None}, go_on, FIRST, (0, (), 0), None)


if __name__ == "__main__":
    unittest.main()
