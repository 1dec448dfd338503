"""[1], [2], [10], [19] to [22]: rows, words, pieces, and entries by their marks."""

import unittest

from pointingreads.errors import BadMark, BadNumber, BadPlace, BadRow, TooGreat
from pointingreads.numbered import mark_count, mark_counts, place_from_end, place_of
from pointingreads.pieces import cut_out, rows_joined, turned_about
from pointingreads.rows import (
    flat, is_row, length_of, mark_at, need_row, need_word, plain, window)
from tests.helpers import (
    GREAT, NO_INTEGERS, ODD, OTHERS, Case, chance, chance_row, marks_of)

FULL = tuple(((0, 1, 2, 3) * 15, GREAT) for _ in range(60))
# each is no block
NO_BLOCKS = OTHERS + (
    (), ((0,),), ((0,), 1, 1), ((), 1), ((0,) * 61, 1), ((0,), 0), ((0,), -1), ((0,), GREAT + 1),
    ((0,), True), ((True,), 1), ((False,), 1), ((4,), 1), ((-1,), 1), (("0",), 1), ((None,), 1),
    ([0], 1), ((0,), "1"), ((0,), None), (0, 1), (1, (0,)), ((0, 4), 1), [(0,), 1], "01", 3)


class RowsTest(Case):
    def test_rows(self):
        for row in ((), (((0,), 1),), (((3,) * 60, GREAT),), FULL, (((0, 1), 1),) * 60):
            self.assertIs(need_row(row), row)
            self.assertIs(is_row(row), True)

    def test_no_rows(self):
        for value in OTHERS + (3, -1, 10 ** 40, FULL + FULL[:1], list(FULL)):
            self.refuses(BadRow, {"place": None}, need_row, value)
            self.assertIs(is_row(value), False)

    def test_the_first_thing_that_is_no_block(self):
        for value in NO_BLOCKS:
            for place in (0, 1, 59):
                row = FULL[:place] + (value,) + (value,) * (place == 1)
                self.refuses(BadRow, {"place": place}, need_row, row)
                self.assertIs(is_row(row), False)

    def test_too_many_things_come_ahead_of_a_thing_that_is_no_block(self):
        self.refuses(BadRow, {"place": None}, need_row, (None,) * 61)
        self.refuses(BadRow, {"place": 0}, need_row, (None,) * 60)

    def test_all_functions_look_at_the_row(self):
        for call in (
                lambda row: length_of(row), lambda row: flat(row), lambda row: mark_at(row, 0),
                lambda row: window(row, 0, 0), lambda row: cut_out(row, 0, 0),
                lambda row: turned_about(row), lambda row: rows_joined(row, ()),
                lambda row: rows_joined((), row), lambda row: mark_count(row, 0, 0),
                lambda row: mark_counts(row), lambda row: place_of(row, 0, 0),
                lambda row: place_from_end(row, 0, 0)):
            self.refuses(BadRow, {"place": None}, call, [])
            self.refuses(BadRow, {"place": 1}, call, (((0,), 1), ((0,), True)))

    def test_words(self):
        for word in ((), (0, 1, 2, 3), (3,) * 20000):
            self.assertIs(need_word(word), word)
        self.assertEqual(need_word((0, 1), 2), (0, 1))
        self.assertEqual(need_word((0,) * 20000, sorts=1), (0,) * 20000)
        for value in OTHERS + (3, (0,) * 20001, (9,) * 20001, [0, 1]):
            self.refuses(BadMark, {"mark": value}, need_word, value)
        for mark in NO_INTEGERS + (4, -1, 10 ** 30):
            self.refuses(BadMark, {"mark": mark}, need_word, (0, 3, mark, None))
        self.refuses(BadMark, {"mark": 2}, need_word, (1, 0, 2, 3), 2)
        self.refuses(BadMark, {"mark": True}, need_word, (0, True), 2)

    def test_length(self):
        self.assertEqual(length_of(()), 0)
        self.assertEqual(length_of(FULL), 3600 * GREAT)
        self.assertEqual(length_of((((0, 1), 3), ((2,), 1))), 7)

    def test_flat(self):
        self.assertEqual(flat(()), ())
        self.assertEqual(flat((((0, 1), 2), ((3,), 1))), (0, 1, 0, 1, 3))
        self.assertEqual(flat((((1,), 300),)), (1,) * 300)
        self.refuses(TooGreat, {"most": 300}, flat, (((1,), 300), ((1,), 1)))
        self.refuses(TooGreat, {"most": 300}, flat, (((1,), GREAT),))
        self.refuses(BadRow, {"place": 1}, flat, (((1,), GREAT), ((1,), 0)))

    def test_plain(self):
        self.assertEqual(plain(()), ())
        self.assertEqual(plain((1, 2)), (((1, 2), 1),))
        word = tuple(number % 4 for number in range(3600))
        self.assertEqual(plain(word[:60]), ((word[:60], 1),))
        self.assertEqual(plain(word[:61]), ((word[:60], 1), (word[60:61], 1)))
        self.assertEqual(marks_of(plain(word)), word)
        self.assertEqual(len(plain(word)), 60)
        self.refuses(TooGreat, {"most": 3600}, plain, word + (0,))
        self.refuses(TooGreat, {"most": 3600}, plain, (0,) * 20000)
        self.refuses(BadMark, {"mark": (0,) * 20001}, plain, (0,) * 20001)
        self.refuses(BadMark, {"mark": 4}, plain, (0,) * 3700 + (4,))
        self.refuses(BadMark, {"mark": [0]}, plain, [0])

    def test_mark_at(self):
        rng = chance(1)
        for _ in range(60):
            row = chance_row(rng, 4, 5, 4, 6)
            marks = marks_of(row)
            for place, mark in enumerate(marks):
                self.assertEqual(mark_at(row, place), mark)
            for place in NO_INTEGERS + (-1, len(marks), len(marks) + 1, 10 ** 40):
                self.refuses(BadPlace, {"place": place}, mark_at, row, place)
        row = (((0, 1), GREAT), ((2, 3, 2), GREAT))
        self.assertEqual(mark_at(row, 2 * GREAT - 1), 1)
        self.assertEqual(mark_at(row, 2 * GREAT), 2)
        self.assertEqual(mark_at(row, 5 * GREAT - 2), 3)
        self.refuses(BadPlace, {"place": 5 * GREAT}, mark_at, row, 5 * GREAT)

    def test_window(self):
        rng = chance(2)
        for _ in range(60):
            row = chance_row(rng, 4, 5, 4, 6)
            marks = marks_of(row)
            for place in range(len(marks) + 1):
                for many in range(len(marks) - place + 1):
                    self.assertEqual(window(row, place, many), marks[place:place + many])
                many = len(marks) - place + 1
                self.refuses(BadNumber, {"value": many}, window, row, place, many)
        row = (((0, 1), GREAT), ((2,), 7))
        self.assertEqual(window(row, 2 * GREAT - 3, 7), (1, 0, 1, 2, 2, 2, 2))
        self.assertEqual(window(row, 1, 300), (1, 0) * 150)
        self.assertEqual(window(row, 2 * GREAT + 7, 0), ())
        self.refuses(BadNumber, {"value": 301}, window, row, 1, 301)
        for many in NO_INTEGERS + (-1, 10 ** 50):
            self.refuses(BadNumber, {"value": many}, window, row, 1, many)
        for place in NO_INTEGERS + (-1, 2 * GREAT + 8):
            self.refuses(BadPlace, {"place": place}, window, row, place, 301)


class PiecesTest(Case):
    def slow_part(self, row, start, stop):
        """[21], entry by entry."""
        told = []
        ahead = 0
        for marks, times in row:
            many = len(marks)
            places = [at for at in range(many * times) if start <= ahead + at < stop]
            runs = []
            for at in places:
                if runs and runs[-1][0] == at // many:
                    runs[-1][1].append(marks[at % many])
                else:
                    runs.append((at // many, [marks[at % many]]))
            if len(runs) == 1:
                told.append((tuple(runs[0][1]), 1))
            else:
                whole = [run for run in runs if len(run[1]) == many]
                if runs and len(runs[0][1]) < many:
                    told.append((tuple(runs[0][1]), 1))
                if whole:
                    told.append((marks, len(whole)))
                if runs and len(runs[-1][1]) < many:
                    told.append((tuple(runs[-1][1]), 1))
            ahead += many * times
        return tuple(told)

    def test_cut_out(self):
        self.assertEqual(cut_out((((0, 1), 4),), 1, 6), (((1,), 1), ((0, 1), 2)))
        rng = chance(3)
        for _ in range(60):
            row = chance_row(rng, 4, 4, 3, 4)
            size = len(marks_of(row))
            for start in range(size + 1):
                for stop in range(start, size + 1):
                    part = cut_out(row, start, stop)
                    self.assertEqual(part, self.slow_part(row, start, stop))
                    self.assertEqual(marks_of(part), marks_of(row)[start:stop])

    def test_cut_out_of_great_rows(self):
        row = (((0, 1, 2), GREAT), ((3,), GREAT))
        self.assertEqual(cut_out(row, 0, 4 * GREAT), row)
        self.assertEqual(
            cut_out(row, 1, 3 * GREAT + 1), (((1, 2), 1), ((0, 1, 2), GREAT - 1), ((3,), 1)))
        self.assertEqual(
            cut_out(row, 4, 3 * GREAT - 1), (((1, 2), 1), ((0, 1, 2), GREAT - 3), ((0, 1), 1)))
        self.assertEqual(cut_out(row, 3, 6), (((0, 1, 2), 1),))
        self.assertEqual(cut_out(row, 4, 6), (((1, 2), 1),))
        self.assertEqual(cut_out(row, GREAT, GREAT), ())

    def test_cut_out_errors(self):
        row = (((0, 1), 4),)
        for start in NO_INTEGERS + (-1, 9):
            self.refuses(BadPlace, {"place": start}, cut_out, row, start, None)
        for stop in NO_INTEGERS + (-1, 2, 9):
            self.refuses(BadPlace, {"place": stop}, cut_out, row, 3, stop)
        full = (((0, 1, 2), 5),) * 60
        self.refuses(TooGreat, {"most": 60}, cut_out, full, 1, 900)
        self.refuses(TooGreat, {"most": 60}, cut_out, full, 0, 899)
        self.assertEqual(len(cut_out(full, 1, 900 - 15)), 60)
        self.assertEqual(len(cut_out(full, 0, 900)), 60)

    def test_rows_joined(self):
        self.assertEqual(rows_joined((), ()), ())
        self.assertEqual(rows_joined((((0,), 2),), (((0,), 2),)), (((0,), 2), ((0,), 2)))
        self.assertEqual(rows_joined(FULL, ()), FULL)
        self.assertEqual(rows_joined(FULL[:20], FULL[:40]), FULL)
        self.refuses(TooGreat, {"most": 60}, rows_joined, FULL, FULL[:1])
        self.refuses(BadRow, {"place": 0}, rows_joined, (3,), (4, 5))
        self.refuses(BadRow, {"place": None}, rows_joined, FULL, None)

    def test_turned_about(self):
        self.assertEqual(turned_about(()), ())
        self.assertEqual(turned_about((((0, 1, 2), GREAT), ((3,), 1))), (((3,), 1), ((2, 1, 0), GREAT)))


class NumberedTest(Case):
    def test_short_rows(self):
        rng = chance(4)
        for _ in range(60):
            row = chance_row(rng, 4, 5, 4, 5)
            marks = marks_of(row)
            self.assertEqual(mark_counts(row), tuple(marks.count(mark) for mark in range(4)))
            for mark in range(4):
                places = [place for place, other in enumerate(marks) if other == mark]
                for place in range(len(marks) + 1):
                    self.assertEqual(mark_count(row, mark, place), marks[:place].count(mark))
                for number in range(len(places) + 2):
                    told = places[number] if number < len(places) else None
                    self.assertEqual(place_of(row, mark, number), told)
                    told = places[-1 - number] if number < len(places) else None
                    self.assertEqual(place_from_end(row, mark, number), told)

    def test_great_rows(self):
        row = (((0, 1, 1), GREAT), ((2,), GREAT), ((1,), 1))
        self.assertEqual(mark_counts(row), (GREAT, 2 * GREAT + 1, GREAT, 0))
        self.assertEqual(mark_count(row, 1, 3 * GREAT - 1), 2 * GREAT - 1)
        self.assertEqual(mark_count(row, 1, 4 * GREAT + 1), 2 * GREAT + 1)
        self.assertEqual(place_of(row, 1, 2 * GREAT), 4 * GREAT)
        self.assertEqual(place_of(row, 1, 2 * GREAT - 1), 3 * GREAT - 1)
        self.assertIsNone(place_of(row, 1, 2 * GREAT + 1))
        self.assertEqual(place_from_end(row, 1, 2 * GREAT), 1)
        self.assertIsNone(place_from_end(row, 1, 2 * GREAT + 1))
        self.assertIsNone(place_of(row, 3, 0))
        self.assertIsNone(place_of(row, 0, 10 ** 999))

    def test_errors(self):
        row = (((0, 1), 3),)
        for function in (place_of, place_from_end):
            for mark in NO_INTEGERS + (-1, 4):
                self.refuses(BadMark, {"mark": mark}, function, row, mark, None)
                self.refuses(BadMark, {"mark": mark}, mark_count, row, mark, None)
            for number in NO_INTEGERS + (-1,):
                self.refuses(BadNumber, {"value": number}, function, row, 0, number)
        for place in NO_INTEGERS + (-1, 7):
            self.refuses(BadPlace, {"place": place}, mark_count, row, 0, place)
        self.refuses(BadRow, {"place": 0}, place_of, (ODD,), 7, -1)


if __name__ == "__main__":
    unittest.main()
