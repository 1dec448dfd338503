"""[55], [56], [18]: what rows hand on, and rows that stand for one another."""

import unittest

from pointingreads.least import least_reader
from pointingreads.named import NAMES, reader_named
from pointingreads.surroundings import handed_on, is_rows_parting, rows_parted, stand_for
from tests.helpers import (
    FIRST, GREAT, LAST, NO_ROWS, OTHERS, Case, as_row, chance, chance_reader, chance_row, chance_word,
    holding_reader, keen_reader, marks_of, mixed, seen_point, slow_behaviour, words)

AROUND = {1: 8, 2: 4, 3: 2}


def in_row(seen):
    return seen is not None and seen[0] == "row"


def is_right(reader, word, other, told):
    """Whether a value with the form of a parting is one."""
    one, two = seen_point(reader, told[1], word, told[2]), seen_point(reader, told[1], other, told[2])
    if told[0] == "one":
        return one != two and not (in_row(one) and in_row(two))
    more, other_more = seen_point(reader, told[3], word, told[4]), seen_point(reader, told[3], other, told[4])
    if not all(in_row(seen) for seen in (one, two, more, other_more)):
        return False
    return (one == more and two != other_more) or (one != more and two == other_more)


def slow_stand_for(reader, word, other):
    """The map as far as short words around the rows tell it, None if they part them."""
    found = {}
    for ahead in words(reader[0], AROUND[reader[0]]):
        for behind in words(reader[0], AROUND[reader[0]]):
            one, two = seen_point(reader, ahead, word, behind), seen_point(reader, ahead, other, behind)
            if in_row(one) and in_row(two):
                if found.setdefault(one[1], two[1]) != two[1]:
                    return None
            elif one != two:
                return None
    return found if len(set(found.values())) == len(found) else None


class SurroundingsTest(Case):
    def chances(self, seed, many):
        rng = chance(seed)
        for number in range(many):
            sorts = rng.randint(1, 3)
            reader = rng.choice((chance_reader, keen_reader, keen_reader))(rng, sorts, 4, rng.randint(1, 3))
            word, other = chance_word(rng, sorts, 4), chance_word(rng, sorts, 4)
            if number % 3 == 0:
                other = word * 2
            yield rng, reader, word, other

    def test_handed_on_against_slow(self):
        some = 0
        for rng, reader, word, _ in self.chances(411, 120):
            slow = {}
            most = AROUND[reader[0]]
            for ahead in words(reader[0], most):
                for behind in words(reader[0], most):
                    seen = seen_point(reader, ahead, word, behind)
                    if in_row(seen):
                        slow.setdefault(seen[1], (seen[1], ahead, behind))
            found = handed_on(reader, as_row(word))
            self.assertEqual(handed_on(mixed(rng, reader), as_row(word)), found)
            self.assertEqual([told[0] for told in found], sorted(slow_behaviour(least_reader(reader), word)[1]))
            for told in found:
                if told[0] in slow:
                    self.assertEqual(told, slow[told[0]])
                    some += 1
                else:
                    self.assertGreater(max(len(told[1]), len(told[2])), most)
                    self.assertEqual(seen_point(reader, told[1], word, told[2]), ("row", told[0]))
            self.assertEqual(set(slow) - {told[0] for told in found}, set())
        self.assertGreater(some, 60)

    def test_handed_on(self):
        self.assertEqual(handed_on(FIRST, (((1,), GREAT), ((0,), GREAT))), ((GREAT, (), ()),))
        self.assertEqual(handed_on(FIRST, (((1,), GREAT),)), ())
        before = reader_named("next to last", 2)
        self.assertEqual(handed_on(before, (((1, 0), GREAT),)), (
            (2 * GREAT - 2, (), ()), (2 * GREAT - 1, (), (0,))))
        self.assertEqual(handed_on(before, (((1,), 1),)), ((0, (), (0,)),))
        self.assertEqual(handed_on(reader_named("second", 2), (((1,), 3),)), ((0, (0,), ()), (1, (), ())))
        for name in NAMES:
            self.assertEqual(handed_on(reader_named(name, 1), ()), ())

    def test_stand_for_against_slow(self):
        numbers = {"one": 0, "two": 0, None: 0}
        for rng, reader, word, other in self.chances(412, 160):
            row, other_row = as_row(word), as_row(other)
            found = stand_for(reader, row, other_row)
            told = rows_parted(reader, row, other_row)
            self.assertEqual(found is None, told is not None)
            slow = slow_stand_for(reader, word, other)
            numbers[None if told is None else told[0]] += 1
            if found is None:
                self.assertIs(is_right(reader, word, other, told), True)
                self.assertIs(is_rows_parting(reader, row, other_row, told), True)
                self.assertIs(is_rows_parting(mixed(rng, reader), row, other_row, told), True)
                self.assertIs(is_rows_parting(reader, other_row, row, told), True)
                self.assertIs(is_rows_parting(reader, row, row, told), False)
            else:
                self.assertEqual(list(found), sorted(found))
                self.assertEqual(set(slow.items()) - set(found), set())
                self.assertEqual([pair[0] for pair in found], [told[0] for told in handed_on(reader, row)])
                self.assertEqual(stand_for(reader, other_row, row), tuple(sorted((two, one) for one, two in found)))
        self.assertGreater(min(numbers.values()), 0, numbers)

    def test_chance_partings(self):
        right = 0
        for rng, reader, word, other in self.chances(413, 200):
            for _ in range(6):
                some = [chance_word(rng, reader[0], 3) for _ in range(4)]
                told = rng.choice((("one", some[0], some[1]), ("two", *some), ("two", some[0], some[1], some[0], some[2])))
                found = is_rows_parting(reader, as_row(word), as_row(other), told)
                self.assertIs(found, is_right(reader, word, other, told))
                right += found
        self.assertGreater(right, 40)

    def test_great_rows(self):
        row, other = (((0, 1), GREAT),), (((0,), 1), ((1, 1), GREAT))
        self.assertEqual(stand_for(FIRST, row, other), ((0, 0),))
        self.assertIsNone(rows_parted(FIRST, row, other))
        self.assertEqual(stand_for(LAST, row, other), ((2 * GREAT - 1, 2 * GREAT),))
        self.assertEqual(stand_for(LAST, row, ()), None)
        self.assertEqual(stand_for(reader_named("none", 2), row, ()), ())
        even = reader_named("first or last", 2)
        self.assertIsNone(stand_for(even, row, other))
        self.assertIs(is_right(even, (0, 1), (0, 1, 1), rows_parted(even, row, other)), True)
        # ("two", ..): behind an odd number of marks ahead the last entry stands for none of both
        before = reader_named("next to last", 2)
        told = ("two", (), (), (), (0,))
        self.assertIs(is_rows_parting(before, (((0,), GREAT),), (((0,), GREAT),), told), False)
        rng = chance(414)
        for _ in range(40):
            reader = holding_reader(rng, 2, 5, 3)
            one, two = chance_row(rng, 2, 3, 3, GREAT), chance_row(rng, 2, 3, 3, GREAT)
            told = rows_parted(reader, one, two)
            self.assertEqual(told is None, stand_for(reader, one, two) is not None)
            self.assertIs(is_rows_parting(reader, one, two, told), told is not None)

    def test_one_entry_and_two(self):
        # behind a mark 1 the first mark 0 is pointed at, behind a mark 2 the last one
        stay, take = (lambda stand: (stand, (0,) if stand > 2 else ())), (lambda stand: (stand, (-1,)))
        reader = (3, (0, 0, 0, 1, 1), (
            (stay(0), stay(1), stay(2)), (take(3), stay(1), stay(1)), (take(4), stay(2), stay(2)),
            (stay(3),) * 3, (take(4), stay(4), stay(4))), (-1, -1, -1, 0, 0))
        for word, other in (((0,), (0, 0)), ((1, 0), (0, 1, 0)), ((2, 0, 1, 1), (0, 2, 0, 0))):
            row, other_row = as_row(word), as_row(other)
            for one, two, first, second in ((row, other_row, word, other), (other_row, row, other, word)):
                told = rows_parted(reader, one, two)
                self.assertEqual(is_right(reader, first, second, told), True)
                self.assertIs(is_rows_parting(reader, one, two, told), True)
                self.assertIsNone(stand_for(reader, one, two))
        self.assertEqual(rows_parted(reader, as_row((0,)), as_row((0, 0))), ("two", (1,), (), (2,), ()))
        self.assertEqual(rows_parted(reader, as_row((0, 0)), as_row((0,))), ("two", (1,), (), (2,), ()))
        self.assertEqual(stand_for(reader, as_row((0, 0, 0)), as_row((0, 0))), ((0, 0), (2, 1)))

    def test_any_value(self):
        row, other = (((1,), 1),), (((0,), 1),)
        for value in OTHERS + (
                0, (), ("one",), ("one", ()), ("one", (), (), ()), ("one", (), (), (), ()), ["one", (), ()],
                ("two", (), ()), ("two", (), (), ()), ("two", (), (), (), (), ()), ("other", (), ()), (None, (), ()),
                ("one", [], ()), ("one", (), None), ("one", (2,), ()), ("one", (), (True,)), ("one", (-1,), ()),
                ("one", (), (1,) * 20001), ("one", (1,) * 20001, ()), ("one", (0,), ()), ("two", (), (), (), (1,)),
                (b"one", (), ()), (1, (), ())):
            self.assertIs(is_rows_parting(FIRST, row, other, value), False)
        for value in (("one", (), ()), ("one", (1,) * 20000, ()), ("one", (), (1,) * 20000)):
            self.assertIs(is_rows_parting(FIRST, row, other, value), True)

    def test_errors(self):
        self.refuses_fit(handed_on)
        self.refuses_fit(stand_for, ())
        self.refuses_fit(rows_parted, ())
        self.refuses_fit(is_rows_parting, (), ("one", (), ()))
        self.refuses_rows(stand_for, FIRST, ())
        self.refuses_rows(rows_parted, FIRST, ())
        self.refuses_rows(is_rows_parting, FIRST, (), behind=(("one", (), ()),))
        self.assertEqual(len(NO_ROWS), 8)
        self.assertEqual(marks_of(()), ())


if __name__ == "__main__":
    unittest.main()
