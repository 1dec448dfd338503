"""[46], [47]: gaps of two points."""

import unittest

from pointingreads.errors import BadNumber, TooGreat
from pointingreads.gaps import gap_comes, gap_ends, gap_in, gap_row, gap_sides
from pointingreads.named import reader_named
from pointingreads.rows import is_row
from tests.helpers import (
    FIRST, GREAT, LAST, NO_INTEGERS, Case, chance, chance_row, chance_reader, holding_reader, marks_of,
    slow_point, words)


def slow_gaps(reader, other, deep):
    found = set()
    for word in words(reader[0], deep):
        places = slow_point(reader, word), slow_point(other, word)
        if None not in places:
            found.add(places[1] - places[0])
    return found


def is_told(sides, number):
    """Whether a gap comes by what gap_sides tells."""
    same, above, below = sides
    if number == 0:
        return same
    start, period, members = above if number > 0 else below
    number = abs(number)
    if number >= start:
        number = start + (number - start) % period
    return number in members


def rounds(lengths, lead=0):
    """A reader whose first entry chooses a round; it points at the last entry that ends one.

    Ahead of that it points at the first entry; it also takes the one that is lead entries behind it.
    """
    held, steps, begins = [0], [None], []
    for many in lengths:
        begins.append(len(held))
        goes_on = begins[-1] + lead
        for number in range(lead):
            last = number == lead - 1
            behind = goes_on + lead % many if last else len(held) + 1
            steps.append(((behind, (-1,) if last else (0,)),) * len(lengths))
            held.append(1)
        for number in range(many):
            behind = goes_on + (number + 1) % many
            steps.append(((behind, (-1,) if number == many - 1 else (0,)),) * len(lengths))
            held.append(1)
    steps[0] = tuple((begin, (-1,)) for begin in begins)
    return (len(lengths), tuple(held), tuple(steps), (-1,) + (0,) * (len(held) - 1))


def strides(many, more):
    """A reader that points at the end of the last of some strides of one or the other length."""
    steps = [((1, (-1,)),) * 2]
    for number in range(1, more + 1):
        ends, on = (1, (-1,)), (number + 1, (0,))
        if number == more:
            steps.append((ends, ends))
        else:
            steps.append((ends, on) if number == many else (on, on))
    return (2, (0,) + (1,) * more, tuple(steps), (-1,) + (0,) * more)


class GapsTest(Case):
    def test_against_slow(self):
        rng = chance(351)
        kinds = set()
        for number in range(160):
            sorts = rng.randint(1, 2)
            make = holding_reader if number % 4 else chance_reader
            reader, other = [make(rng, sorts, rng.randint(1, 4), rng.randint(1, 2)) for _ in range(2)]
            slow = slow_gaps(reader, other, {1: 40, 2: 8}[sorts])
            sides = gap_sides(reader, other)
            for gap in list(range(-30, 31)) + [GREAT, -GREAT, 1 - GREAT, 3400, 3401, -3402, 5000]:
                comes = is_told(sides, gap)
                self.assertIs(gap_comes(reader, other, gap), comes)
                if gap in slow:
                    self.assertIs(comes, True)
                row = gap_row(reader, other, gap)
                self.assertIs(row is not None, comes)
                if comes:
                    self.assertIs(is_row(row), True)
                    self.assertEqual(gap_in(reader, other, row), gap)
            some = [gap for gap in range(-60, 61) if is_told(sides, gap)]
            if not some:
                self.assertIsNone(gap_ends(reader, other))
            else:
                self.assertEqual(gap_ends(reader, other), (
                    None if some[0] < -30 else some[0], None if some[-1] > 30 else some[-1]))
            kinds.add((bool(some) and some[0] < -30, bool(some) and some[-1] > 30))
            for side, sign in ((sides[1], 1), (sides[2], -1)):
                self.least_side(side, [gap_comes(reader, other, sign * gap) for gap in range(1, 121)])
        self.assertEqual(len(kinds), 3)

    def least_side(self, side, comes):
        """The side has the least period, and the least start for it, of what comes from 1 on."""
        for period in range(1, 40):
            start = len(comes) - period
            while start > 0 and comes[start - 1] == comes[start - 1 + period]:
                start -= 1
            if start < 40:
                self.assertEqual(side[:2], (start + 1, period))
                members = [gap for gap in range(1, start + 1 + period) if comes[gap - 1]]
                self.assertEqual(list(side[2]), members)
                return

    def test_in_rows(self):
        rng = chance(352)
        for _ in range(100):
            reader, other = [holding_reader(rng, 2, 5, 3) for _ in range(2)]
            row = chance_row(rng, 2, 4, 4, 6)
            places = slow_point(reader, marks_of(row)), slow_point(other, marks_of(row))
            self.assertEqual(
                gap_in(reader, other, row), None if None in places else places[1] - places[0])
        row = (((1,), GREAT), ((0, 1), GREAT))
        self.assertEqual(gap_in(FIRST, LAST, row), 2 * GREAT - 1)
        self.assertEqual(gap_in(LAST, FIRST, row), 1 - 2 * GREAT)
        self.assertIsNone(gap_in(FIRST, LAST, (((1,), GREAT),)))

    def test_the_document_and_named_readers(self):
        first, last = reader_named("first", 2), reader_named("last", 2)
        self.assertEqual(gap_sides(first, last), (True, (1, 1, (1,)), (1, 1, ())))
        self.assertEqual(gap_sides(last, first), (True, (1, 1, ()), (1, 1, (1,))))
        self.assertEqual(gap_ends(first, last), (0, None))
        self.assertEqual(gap_ends(last, first), (None, 0))
        self.assertEqual(gap_ends(last, reader_named("next to last", 2)), (-1, -1))
        self.assertEqual(gap_sides(last, reader_named("next to last", 2)), (False, (1, 1, ()), (2, 1, (1,))))
        self.assertIsNone(gap_ends(last, reader_named("none", 2)))
        self.assertEqual(gap_ends(reader_named("third", 2), first), (-2, -2))
        self.assertEqual(gap_ends(first, reader_named("third", 2)), (2, 2))
        even = reader_named("even last", 2)
        self.assertEqual(gap_sides(first, even), (True, (1, 2, (2,)), (1, 1, ())))
        self.assertEqual(gap_ends(reader_named("third", 2), even), (0, None))
        self.assertEqual(gap_ends(reader_named("second", 2), even), (-1, None))

    def test_sides_of_two_thousand(self):
        first = reader_named("first", 2)
        found = gap_sides(first, rounds((44, 45)))
        members = tuple(gap for gap in range(1, 1981) if gap % 44 == 0 or gap % 45 == 0)
        self.assertEqual(found, (True, (1, 1980, members), (1, 1, ())))
        self.refuses(TooGreat, {"most": 2000}, gap_sides, first, rounds((44, 47)))
        self.refuses(TooGreat, {"most": 2000}, gap_sides, rounds((44, 47)), first)
        # here the start is what is great
        start = (44 - 1) * (47 - 1)
        found = gap_sides(first, strides(44, 47))[1]
        self.assertEqual(found[:2], (start, 1))
        self.assertEqual(found[2], tuple(sorted({
            44 * one + 47 * two for one in range(50) for two in range(50)
            if 0 < 44 * one + 47 * two <= start})))
        self.refuses(TooGreat, {"most": 2000}, gap_sides, first, strides(45, 47))
        self.assertIs(gap_comes(first, strides(45, 47), 44 * 46 - 1), False)
        self.assertIs(gap_comes(first, strides(45, 47), 44 * 46), True)
        # both together: 20 + 1980, and one more
        found = gap_sides(first, rounds((44, 45), 19))[1]
        self.assertEqual(found[:2], (20, 1980))
        self.assertEqual(found[2], (19,) + members)
        self.refuses(TooGreat, {"most": 2000}, gap_sides, first, rounds((44, 45), 20))
        self.refuses(TooGreat, {"most": 2000}, gap_sides, rounds((44, 45), 20), first)

    def test_great_gaps(self):
        first = reader_named("first", 2)
        for reader in (rounds((44, 45)), rounds((99, 100)), strides(30, 31), strides(60, 61)):
            for gap in (99 * 44 * 60 * 10 ** 20, 99 * 44 * 60 * 10 ** 20 + 1, 44, 1799):
                row = gap_row(first, reader, gap)
                self.assertIs(gap_comes(first, reader, gap), row is not None)
                if row is not None:
                    self.assertIs(is_row(row), True)
                    self.assertEqual(gap_in(first, reader, row), gap)
        self.assertEqual(gap_in(first, rounds((99, 100)), gap_row(first, rounds((99, 100)), 9900)), 9900)

    def test_rounds_that_are_no_blocks(self):
        # a round of 61 marks can't be done again and again, one of 60 can
        for many, fits in ((60, True), (61, False)):
            marks = (0,) * (many - 1) + (1,)
            steps = [((1, (-1,)),) * 2]
            for place, mark in enumerate(marks):
                on, lost = (1 + (place + 1) % many, (0,)), (0, ())
                steps.append((on, lost) if mark == 0 else (lost, on))
            # the one points at the entry ahead of all rounds, the other one at the last of the last round
            holds = (2, (0,) + (1,) * many, tuple(steps), (-1,) + (0,) * many)
            steps[many] = ((0, ()), (1, (-1,)))
            other = holds[:2] + (tuple(steps),) + holds[3:]
            self.assertEqual(gap_in(holds, other, gap_row(holds, other, 3 * many)), 3 * many)
            self.assertIs(gap_comes(holds, other, many * 10 ** 25), True)
            self.assertIs(gap_comes(holds, other, many * 10 ** 25 + 1), False)
            if fits:
                row = gap_row(holds, other, many * 10 ** 25)
                self.assertEqual(gap_in(holds, other, row), many * 10 ** 25)
            else:
                self.refuses(TooGreat, {"most": 60}, gap_row, holds, other, many * 10 ** 25)

    def test_errors(self):
        self.refuses_two(gap_in, ())
        self.refuses_two(gap_comes, 0)
        self.refuses_two(gap_row, 0)
        self.refuses_two(gap_ends)
        self.refuses_two(gap_sides)
        self.refuses_rows(gap_in, FIRST, LAST)
        for number in NO_INTEGERS + (GREAT + 1, -GREAT - 1, 10 ** 900):
            self.refuses(BadNumber, {"value": number}, gap_comes, FIRST, LAST, number)
            self.refuses(BadNumber, {"value": number}, gap_row, FIRST, LAST, number)


if __name__ == "__main__":
    unittest.main()
