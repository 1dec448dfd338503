"""[60]: long runs."""

import unittest

from pointingreads.errors import BadReader, BadRow
from pointingreads.named import reader_named
from pointingreads.reading import point
from pointingreads.rows import length_of
from pointingreads.runs import long_run
from tests.helpers import (
    FIRST, GREAT, LAST, NO_ROWS, Case, chance, chance_reader, chance_row, holding_reader, keen_reader, marks_of,
    mixed, slow_point)


def stands_there(where, place, length):
    if where is None or place is None:
        return where is None and place is None
    return where == ("front", place) or where == ("end", length - 1 - place)


def turning(stands):
    """A reader of one mark that takes eight entries, then turns three and five of its hands once a round.

    It points at the one and the other hands by turns.
    """
    held = tuple(range(8)) + (8,) * stands
    steps = [((stand + 1, tuple(range(stand)) + (-1,)),) for stand in range(8)]
    for stand in range(stands):
        last = stand == stands - 1
        keep = (1, 2, 0, 4, 5, 6, 7, 3) if last else tuple(range(8))
        steps.append(((8 if last else 9 + stand, keep),))
    points = (-1,) + (0,) * 7 + tuple(0 if stand % 3 == 0 else 3 for stand in range(stands))
    return (1, held, tuple(steps), points)


class RunsTest(Case):
    def least(self, reader, rows, told, more):
        """What is told holds, and neither fewer things nor a lesser beginning do."""
        begin, wheres = told
        word, part, other = [marks_of(row) for row in rows]
        places = [slow_point(reader, word + part * times + other) for times in range(begin + 2 * len(wheres) + more)]
        for times in range(begin, len(places)):
            length = len(word) + times * len(part) + len(other)
            self.assertTrue(stands_there(wheres[(times - begin) % len(wheres)], places[times], length))
        if begin > 0:
            length = len(word) + (begin - 1) * len(part) + len(other)
            self.assertFalse(stands_there(wheres[-1], places[begin - 1], length))
        for many in range(1, len(wheres)):
            if len(wheres) % many == 0:
                self.assertNotEqual(wheres, wheres[:many] * (len(wheres) // many))

    def test_against_slow(self):
        rng = chance(441)
        shapes = set()
        for _ in range(500):
            sorts = rng.randint(1, 3)
            make = rng.choice((chance_reader, holding_reader, keen_reader))
            reader = make(rng, sorts, rng.randint(2, 6), rng.randint(1, 4))
            rows = [chance_row(rng, sorts, 2, 3, 2) for _ in range(3)]
            if rows[1] == ():
                rows[1] = (((0,), 1),)
            told = long_run(reader, *rows)
            self.assertEqual(long_run(mixed(rng, reader), *rows), told)
            self.least(reader, rows, told, 30)
            shapes.add((told[0], len(told[1])))
        self.assertGreater(len(shapes), 10)

    def test_the_document(self):
        self.assertEqual(long_run(FIRST, (), (((0, 1), 1),), ()), (1, (("front", 0),)))
        self.assertEqual(long_run(LAST, (), (((0, 1), 1),), ()), (1, (("end", 0),)))
        self.assertEqual(long_run(LAST, (((0,), 1),), (((0, 1), 1),), ()), (0, (("end", 0),)))
        self.assertEqual(long_run(FIRST, (), (((1,), GREAT),), ()), (0, (None,)))
        self.assertEqual(long_run(FIRST, (), (((1,), GREAT),), (((1, 0, 1), 1),)), (0, (("end", 1),)))
        self.assertEqual(long_run(FIRST, (((0,), 1),), (((1,), GREAT),), ()), (0, (("front", 0),)))
        even = reader_named("first or last", 2)
        self.assertEqual(long_run(even, (), (((0,), 1),), ()), (1, (("end", 0), ("front", 0))))
        self.assertEqual(long_run(even, (), (((0,), 2),), ()), (1, (("front", 0),)))
        self.assertEqual(long_run(even, (((1,), 1),), (((0,), 2),), ()), (0, (("end", 0),)))
        third = reader_named("third", 2)
        self.assertEqual(long_run(third, (), (((0,), 1),), ()), (3, (("front", 2),)))
        self.assertEqual(long_run(third, (), (((0,), 1),), (((1,), 4),)), (0, (("front", 2),)))
        # the place is the same for a short while at both ends
        self.assertEqual(long_run(LAST, (), (((0,), 1),), (((1,), 1),)), (0, (("end", 0),)))

    def test_great_rows(self):
        rng = chance(442)
        for _ in range(60):
            reader = keen_reader(rng, 2, 5, 3)
            rows = [chance_row(rng, 2, 3, 3, GREAT) for _ in range(3)]
            if rows[1] == ():
                continue
            begin, wheres = long_run(reader, *rows)
            for times in (begin, begin + 1, begin + 2, begin + len(wheres), begin + 7):
                row = rows[0] + rows[1] * times + rows[2]
                if len(row) <= 60:
                    where = wheres[(times - begin) % len(wheres)]
                    self.assertTrue(stands_there(where, point(reader, row), length_of(row)))

    def test_very_many_things(self):
        begin, wheres = long_run(turning(192), (), (((0,), 1),), ())
        self.assertEqual(len(wheres), 192 * 15)
        self.assertEqual(begin, 8)
        self.assertEqual(set(wheres), {("front", place) for place in range(8)})
        self.least(turning(24), [(), (((0,), 1),), ()], long_run(turning(24), (), (((0,), 1),), ()), 50)
        self.least(turning(9), [(), (((0,), 5),), ()], long_run(turning(9), (), (((0,), 5),), ()), 50)

    def test_entries_held_for_many_rounds(self):
        # a new entry is taken once a round and let go eight rounds later; the oldest one is pointed at
        for stands in (3, 20):
            held = tuple(range(8)) + (8,) * stands
            steps = [((stand + 1, tuple(range(stand)) + (-1,)),) for stand in range(8)]
            for stand in range(stands):
                last = stand == stands - 1
                steps.append(((8 if last else 9 + stand, tuple(range(1, 8)) + (-1,) if last else tuple(range(8))),))
            reader = (1, held, tuple(steps), tuple(-1 if many == 0 else 0 for many in held))
            told = long_run(reader, (), (((0,), 1),), ())
            self.assertEqual(len(told[1]), stands)
            self.assertEqual({where[0] for where in told[1]}, {"end"})
            self.least(reader, [(), (((0,), 1),), ()], told, 100)

    def test_errors(self):
        part = (((0,), 1),)
        self.refuses_readers(long_run, (), part, ())
        for value, place in NO_ROWS:
            self.refuses(BadRow, {"place": place}, long_run, FIRST, value, None, (((9,), 1), 0))
            self.refuses(BadRow, {"place": place}, long_run, FIRST, (), value, (((9,), 1), 0))
            self.refuses(BadRow, {"place": place}, long_run, FIRST, (), part, value)
            self.refuses(BadRow, {"place": place}, long_run, FIRST, (), (), value)
        self.refuses(BadRow, {"place": None}, long_run, FIRST, part, (), part)
        self.refuses(BadReader, {"word": "form", "stand": None}, long_run, None, (), (), ())


if __name__ == "__main__":
    unittest.main()
