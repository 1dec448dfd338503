"""[11], [27], [29]: the rules of readers and the stands that they meet."""

import unittest

from pointingreads.errors import BadReader, BadRow
from pointingreads.readers import (
    greatest_hold, is_reader, met_stands, need_fit, need_reader, reader_fault)
from tests.helpers import GREAT, NO_INTEGERS, OTHERS, Case, chance, chance_reader

FIRST = (2, (0, 1), (((1, (-1,)), (0, ())), ((1, (0,)), (1, (0,)))), (-1, 0))


def changed(reader, part, *way_and_value):
    """The reader with another thing at a way of indexes in one of its parts."""
    *way, value = way_and_value

    def put(thing, way):
        if not way:
            return value
        return thing[:way[0]] + (put(thing[way[0]], way[1:]),) + thing[way[0] + 1:]
    return reader[:part] + (put(reader[part], way),) + reader[part + 1:]


class RulesTest(Case):
    def fault(self, value, fault):
        self.assertEqual(reader_fault(value), fault)
        self.assertIs(is_reader(value), fault is None)
        if fault is None:
            self.assertIs(need_reader(value), value)
        else:
            self.refuses(BadReader, {"word": fault[0], "stand": fault[1]}, need_reader, value)

    def test_readers(self):
        rng = chance(41)
        self.fault(FIRST, None)
        self.fault((1, (0,), (((0, ()),),), (-1,)), None)
        for _ in range(100):
            self.fault(chance_reader(rng, rng.randint(1, 4), rng.randint(1, 9), rng.randint(0, 8)), None)
        self.fault((4, (0,) * 200, (((0, ()),) * 4,) * 200, (-1,) * 200), None)
        self.fault((1, (0, 8), (((0, ()),), ((1, (7, 6, 5, 4, 3, 2, 1, -1)),)), (-1, 7)), None)
        # a stand with more hands may be there if no step leads to it
        self.fault((1, (0, 5), (((0, ()),), ((1, (0, 1, 2, 3, 4)),)), (-1, 4)), None)

    def test_form(self):
        form = ("form", None)
        for value in OTHERS + (3, (), FIRST[:3], FIRST + (0,), list(FIRST)):
            self.fault(value, form)
        for sorts in NO_INTEGERS + (0, 5, -1):
            self.fault((sorts,) + FIRST[1:], form)
        for part in (1, 2, 3):
            for value in OTHERS + (3, (), (0,), (0,) * 3, list(FIRST[part])):
                self.fault(FIRST[:part] + (value,) + FIRST[part + 1:], form)
        self.fault((1, (0,) * 201, (((0, ()),),) * 201, (-1,) * 201), form)
        self.fault((1, (), (), ()), form)

    def test_held(self):
        for value in NO_INTEGERS + (-1, 9):
            self.fault(changed(FIRST, 1, 1, value), ("held", 1))
            self.fault(changed(FIRST, 1, 0, value), ("held", 0))
        self.fault(changed(FIRST, 1, 0, 1), ("held", 0))
        self.fault((1, (0, 9), (((1, tuple(range(-1, 8))),),) * 2, (-1, -1)), ("held", 1))

    def test_steps(self):
        for value in OTHERS + (3, (), FIRST[2][1][:1], FIRST[2][1] * 2, list(FIRST[2][1])):
            self.fault(changed(FIRST, 2, 1, value), ("steps", 1))
        for value in OTHERS + (3, (), (0,), (0, (), 0), [0, ()]):
            self.fault(changed(FIRST, 2, 0, 1, value), ("steps", 0))
        for stand in NO_INTEGERS + (-1, 2):
            self.fault(changed(FIRST, 2, 1, 1, (stand, (0,))), ("steps", 1))
        for keep in OTHERS + (0, (), (0, -1), (-2,), (1,), (True,), (False,), (None,), [0]):
            self.fault(changed(FIRST, 2, 1, 1, (1, keep)), ("steps", 1))
        self.fault(changed(FIRST, 2, 0, 1, (0, (-1,))), ("steps", 0))
        self.fault(changed(FIRST, 2, 0, 1, (1, (0,))), ("steps", 0))
        two = (1, (0, 1, 2), (((1, (-1,)),), ((2, (0, -1)),), ((2, (1, -1)),)), (-1, 0, 1))
        self.fault(two, None)
        for keep in ((0, 0), (-1, -1), (1, 1), (0, 2)):
            self.fault(changed(two, 2, 2, 0, (2, keep)), ("steps", 2))

    def test_points(self):
        for value in NO_INTEGERS + (-2, 1):
            self.fault(changed(FIRST, 3, 1, value), ("points", 1))
        for value in NO_INTEGERS + (-2, 0):
            self.fault(changed(FIRST, 3, 0, value), ("points", 0))

    def test_each_rule_at_all_stands_ahead_of_the_next_one(self):
        bad = (2, (0, 9), (None, None), (None, None))
        self.fault(bad, ("held", 1))
        self.fault((2, (0, 1), (FIRST[2][0], None), (5, 5)), ("steps", 1))
        self.fault((2, (0, 1), (None, None), (5, 5)), ("steps", 0))
        self.fault((2, (0, 1), FIRST[2], (5, 5)), ("points", 0))
        self.fault((2, (7, 9), FIRST[2], (5, 5)), ("held", 0))
        self.fault((5, (7, 9), FIRST[2], (5, 5)), ("form", None))

    def test_fit(self):
        row = (((0, 1), GREAT), ((1,), 1))
        self.assertIs(need_fit(FIRST, row), row)
        self.assertEqual(need_fit(FIRST, ()), ())
        self.refuses(BadReader, {"word": "form", "stand": None}, need_fit, None, None)
        self.refuses(BadReader, {"word": "points", "stand": 0}, need_fit, FIRST[:3] + ((0, 0),), None)
        self.refuses(BadRow, {"place": None}, need_fit, FIRST, None)
        self.refuses(BadRow, {"place": 1}, need_fit, FIRST, (((3,), 1), ((4,), 1)))
        self.refuses(BadRow, {"place": 1}, need_fit, FIRST, (((1,), 1), ((0, 2), 1), ((3,), 1)))
        self.refuses(BadRow, {"place": 0}, need_fit, (1, (0,), (((0, ()),),), (-1,)), (((1,), 1),))


class MetTest(Case):
    def test_order(self):
        steps = (
            ((3, ()), (1, ())), ((1, ()), (0, ())), ((0, ()), (0, ())), ((5, ()), (3, ())),
            ((4, ()), (4, ())), ((1, ()), (0, ())))
        reader = (2, (0,) * 6, steps, (-1,) * 6)
        self.assertEqual(met_stands(reader), (0, 3, 1, 5))
        self.assertEqual(met_stands(FIRST), (0, 1))
        self.assertEqual(met_stands((1, (0, 1), (((0, ()),), ((1, (0,)),)), (-1, 0))), (0,))

    def test_by_words(self):
        rng = chance(42)
        for _ in range(50):
            reader = chance_reader(rng, 2, 6, 2)
            found = [0]
            for stand in found:
                for there, _ in reader[2][stand]:
                    if there not in found:
                        found.append(there)
            self.assertEqual(met_stands(reader), tuple(found))
            self.assertEqual(greatest_hold(reader), max(reader[1][stand] for stand in found))

    def test_greatest_hold_asks_met_stands_alone(self):
        self.assertEqual(greatest_hold((1, (0, 5), (((0, ()),), ((1, (0, 1, 2, 3, 4)),)), (-1, 4))), 0)
        self.assertEqual(greatest_hold(FIRST), 1)

    def test_errors(self):
        for function in (met_stands, greatest_hold):
            self.refuses(BadReader, {"word": "form", "stand": None}, function, None)
            self.refuses(BadReader, {"word": "points", "stand": 1}, function, FIRST[:3] + ((-1, 1),))


if __name__ == "__main__":
    unittest.main()
