"""[14], [34]: what sieves pick, frames and measures."""

import unittest

from pointingreads.errors import BadNumber, BadPaper, BadPlace, BadRow, BadSieve, TooGreat
from pointingreads.picking import (
    frame, is_picked, measure, measures_joined, pick_at, pick_number, picked, picks_ahead)
from tests.helpers import (
    GREAT, NO_INTEGERS, OTHERS, Case, chance, chance_row, chance_sieve, chain_of, cycle_of, marks_of,
    sieve_by, slow_frame, slow_picks, split_row)

# picks the entries 1 with an even number of entries ahead and at least two behind
SOME = sieve_by(2, cycle_of(2, 2, (0, 1)), chain_of(2, 3), lambda left, mark, right: (left, mark, right) == (0, 1, 2))


def slow_measure(sieve, marks):
    def led(table, state, marks):
        for mark in marks:
            state = table[state][mark]
        return state
    _, lefts, rights, pick = sieve
    return (
        tuple(led(lefts, left, marks) for left in range(len(lefts))),
        tuple(led(rights, right, marks[::-1]) for right in range(len(rights))),
        tuple(
            tuple(
                sum(
                    pick[led(lefts, left, marks[:at])][mark][led(rights, right, marks[at + 1:][::-1])]
                    for at, mark in enumerate(marks))
                for right in range(len(rights)))
            for left in range(len(lefts))))


class PickingTest(Case):
    def test_short_rows(self):
        rng = chance(81)
        for number in range(250):
            sorts = rng.randint(1, 3)
            sieve = chance_sieve(rng, sorts, rng.randint(1, 6), rng.randint(1, 6), rng.choice([0.1, 0.5]))
            row = chance_row(rng, sorts, 3, 3, 12)
            marks = marks_of(row)
            places = slow_picks(sieve, marks)
            self.assertEqual(picked(sieve, row), places)
            self.assertEqual(pick_number(sieve, row), len(places))
            for at, place in enumerate(places):
                self.assertEqual(pick_at(sieve, row, at), place)
            self.assertIsNone(pick_at(sieve, row, len(places)))
            self.assertIsNone(pick_at(sieve, row, 10 ** 40))
            for place in range(0, len(marks), 5):
                self.assertEqual(frame(sieve, row, place), slow_frame(sieve, marks, place))
                self.assertIs(is_picked(sieve, row, place), place in places)
                ahead = len([other for other in places if other < place])
                self.assertEqual(picks_ahead(sieve, row, place), ahead)
            self.assertEqual(picks_ahead(sieve, row, len(marks)), len(places))

    def test_rows_with_many_repetitions(self):
        rng = chance(82)
        for number in range(60):
            sieve = chance_sieve(rng, 2, rng.randint(1, 7), rng.randint(1, 7))
            if number % 2:
                left, right = cycle_of(2, rng.randint(1, 6), (0,)), cycle_of(2, rng.randint(1, 6), (0, 1))
                sieve = sieve_by(2, left, right, lambda left, mark, right: rng.random() < 0.5)
            row = chance_row(rng, 2, 2, 3, 150)
            marks = marks_of(row)
            places = slow_picks(sieve, marks) if len(marks) < 400 else ()
            if len(marks) < 400:
                self.assertEqual(pick_number(sieve, row), len(places))
                for at, place in enumerate(places):
                    self.assertEqual(pick_at(sieve, row, at), place)
                for place in range(0, len(marks) + 1, 7):
                    ahead = len([other for other in places if other < place])
                    self.assertEqual(picks_ahead(sieve, row, place), ahead)

    def test_great_rows(self):
        row = (((0, 1, 1), GREAT), ((1,), 4))
        # six entries hold 0 1 1 0 1 1: the picks are those at 2 and 4
        self.assertEqual(pick_number(SOME, row), GREAT + 1)
        self.assertEqual(pick_at(SOME, row, 0), 2)
        self.assertEqual(pick_at(SOME, row, 1), 4)
        self.assertEqual(pick_at(SOME, row, GREAT - 1), 3 * GREAT - 2)
        self.assertEqual(pick_at(SOME, row, GREAT), 3 * GREAT)
        self.assertIsNone(pick_at(SOME, row, GREAT + 1))
        self.assertEqual(picks_ahead(SOME, row, 3 * GREAT), GREAT)
        self.assertEqual(frame(SOME, row, 3 * GREAT + 3), (1, 0))
        self.assertEqual(frame(SOME, row, 3 * GREAT + 2), (0, 1))
        self.assertEqual(frame(SOME, row, 1), (1, 2))
        self.assertIs(is_picked(SOME, row, 3 * GREAT + 2), False)
        self.assertIs(is_picked(SOME, row, 3 * GREAT), True)
        lefts, rights, counts = measure(SOME, row)
        self.assertEqual(lefts, (0, 1))
        self.assertEqual(rights, (2, 2, 2))
        # with more entries behind, the last even one is picked, too
        self.assertEqual(counts[0], (GREAT + 1, GREAT + 2, GREAT + 2))

    def test_great_rows_in_two_writings(self):
        rng = chance(83)
        for _ in range(80):
            sieve = chance_sieve(rng, 2, rng.randint(1, 8), rng.randint(1, 8))
            row = chance_row(rng, 2, 3, 4, GREAT)
            other = split_row(rng, row)
            size = sum(len(marks) * times for marks, times in row)
            many = pick_number(sieve, row)
            self.assertEqual(many, pick_number(sieve, other))
            self.assertEqual(measure(sieve, row), measure(sieve, other))
            self.assertEqual(measure(sieve, row)[2][0][0], many)
            self.assertEqual(picks_ahead(sieve, row, size), many)
            for number in (0, many // 3, many - 1):
                if 0 <= number < many:
                    place = pick_at(sieve, row, number)
                    self.assertEqual(place, pick_at(sieve, other, number))
                    self.assertIs(is_picked(sieve, row, place), True)
                    self.assertEqual(picks_ahead(sieve, row, place), number)
                    self.assertEqual(picks_ahead(sieve, other, place + 1), number + 1)
                    self.assertEqual(frame(sieve, row, place), frame(sieve, other, place))

    def test_sixty_great_blocks(self):
        rng = chance(84)
        sieve = sieve_by(4, cycle_of(4, 7, (0, 2)), cycle_of(4, 9, (1, 2)), lambda left, mark, right: left == right)
        row = tuple((tuple(rng.randrange(4) for _ in range(60)), GREAT) for _ in range(60))
        many = pick_number(sieve, row)
        self.assertEqual(measure(sieve, row)[2][0][0], many)
        place = pick_at(sieve, row, many - 1)
        self.assertEqual(picks_ahead(sieve, row, place), many - 1)

    def test_measures(self):
        rng = chance(85)
        for _ in range(120):
            sieve = chance_sieve(rng, 2, rng.randint(1, 5), rng.randint(1, 5))
            row, other = chance_row(rng, 2, 2, 3, 4), chance_row(rng, 2, 2, 3, 4)
            one, two = measure(sieve, row), measure(sieve, other)
            self.assertEqual(one, slow_measure(sieve, marks_of(row)))
            self.assertEqual(measures_joined(sieve, one, two), measure(sieve, row + other))
        self.assertEqual(measure(SOME, ()), ((0, 1), (0, 1, 2), ((0, 0, 0), (0, 0, 0))))

    def test_measures_that_no_row_has(self):
        one = ((1, 1), (0, 0, 0), ((1, 2, 3), (4, 5, 10 ** 900)))
        two = ((0, 1), (2, 1, 0), ((10, 20, 30), (40, 50, 60)))
        self.assertEqual(measures_joined(SOME, one, two), (
            (1, 1), (0, 0, 0), ((3 + 40, 2 + 50, 1 + 60), (10 ** 900 + 40, 5 + 50, 4 + 60))))

    def test_edges_of_short_rows(self):
        self.assertEqual(picked(SOME, ()), ())
        self.assertEqual(pick_number(SOME, ()), 0)
        self.assertIsNone(pick_at(SOME, (), 0))
        self.assertEqual(picks_ahead(SOME, (), 0), 0)
        self.assertEqual(len(picked(SOME, (((1,), 300),))), 149)
        self.refuses(TooGreat, {"most": 300}, picked, SOME, (((1,), 301),))
        self.refuses(BadRow, {"place": 1}, picked, SOME, (((1,), 301), ((2,), 1)))

    def test_errors(self):
        row = (((0, 1), 3),)
        calls = (
            picked, pick_number, measure, lambda one, two: frame(one, two, -1),
            lambda one, two: is_picked(one, two, -1), lambda one, two: picks_ahead(one, two, -1),
            lambda one, two: pick_at(one, two, -1))
        for call in calls:
            self.refuses(BadSieve, {"word": "form"}, call, None, None)
            self.refuses(BadSieve, {"word": "pick"}, call, SOME[:3] + (((((0,) * 3,) * 2),) * 2,), None)
            self.refuses(BadRow, {"place": None}, call, SOME, None)
            self.refuses(BadRow, {"place": 1}, call, SOME, row + (((2,), GREAT),))
        for place in NO_INTEGERS + (-1, 6):
            self.refuses(BadPlace, {"place": place}, frame, SOME, row, place)
            self.refuses(BadPlace, {"place": place}, is_picked, SOME, row, place)
        for place in NO_INTEGERS + (-1, 7):
            self.refuses(BadPlace, {"place": place}, picks_ahead, SOME, row, place)
        for number in NO_INTEGERS + (-1, 10 ** 40 + 1):
            self.refuses(BadNumber, {"value": number}, pick_at, SOME, row, number)

    def test_measure_errors(self):
        good = measure(SOME, ())
        bad = OTHERS + (3, (), good[:2], good + good[:1], list(good))
        for part in range(3):
            for value in OTHERS + (0, (), (0,), good[part] + (0,), list(good[part])):
                bad += (good[:part] + (value,) + good[part + 1:],)
        for value in NO_INTEGERS + (-1, 3):
            bad += (((0, 1), (0, value, 0), good[2]), ((0, value) if value != 3 else (0, 2), (0, 0, 0), good[2]))
        for value in NO_INTEGERS + (-1,):
            bad += (good[:2] + (((0, 0, 0), (0, value, 0)),),)
        bad += (good[:2] + (((0, 0, 0), (0, 0)),), good[:2] + (((0, 0, 0), [0, 0, 0]),))
        for value in bad:
            self.refuses(BadPaper, {"word": "measure"}, measures_joined, SOME, value, good)
            self.refuses(BadPaper, {"word": "measure"}, measures_joined, SOME, good, value)
        self.refuses(BadSieve, {"word": "form"}, measures_joined, 0, 0, 0)


if __name__ == "__main__":
    unittest.main()
