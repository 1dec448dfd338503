"""[54]: behaviours of rows."""

import unittest

from pointingreads.behaviours import behaviour, behaviours_joined, need_behaviour
from pointingreads.errors import BadPaper
from tests.helpers import (
    FIRST, GREAT, LAST, OTHERS, Case, chance, chance_reader, chance_row, holding_reader, marks_of,
    slow_behaviour, slow_reading)


def some_reader(rng, sorts, stands, hands):
    return rng.choice((chance_reader, holding_reader))(rng, sorts, rng.randint(1, stands), rng.randint(1, hands))


def chance_behaviour(rng, reader):
    """A value with the form of a behaviour, whether or not a row has it."""
    many = 0
    found = []
    for held in reader[1]:
        stand = rng.randrange(len(reader[1]))
        known = list(range(-many, held))
        hold = []
        for _ in range(reader[1][stand]):
            if known and rng.random() < 0.6:
                hold.append(known.pop(rng.randrange(len(known))))
            else:
                many += 1
                hold.append(-many)
        found.append((stand, tuple(hold)))
    return tuple(found)


def slow_joined(reader, value, other):
    """Both joined, hand by hand, by the words of the document."""
    numbers = {}
    found = []
    for stand, hold in value:
        behind, other_hold = other[stand]
        told = []
        for thing in other_hold:
            if thing >= 0 and hold[thing] >= 0:
                told.append(hold[thing])
            else:
                entry = (1, -1 - thing) if thing < 0 else (0, -1 - hold[thing])
                told.append(-1 - numbers.setdefault(entry, len(numbers)))
        found.append((behind, tuple(told)))
    return tuple(found), tuple(numbers)


class BehavioursTest(Case):
    def test_against_slow(self):
        rng = chance(401)
        for _ in range(300):
            sorts = rng.randint(1, 4)
            reader = some_reader(rng, sorts, 6, 4)
            row = chance_row(rng, sorts, 4, 4, 7)
            found = behaviour(reader, row)
            self.assertEqual(found, slow_behaviour(reader, marks_of(row))[0])
            self.assertIs(need_behaviour(reader, found), found)
            for mark in range(sorts):
                steps = tuple(steps[mark] for steps in reader[2])
                told = behaviour(reader, (((mark,), 1),))
                self.assertEqual([stand for stand, _ in told], [stand for stand, _ in steps])
                self.assertEqual(
                    [tuple(-1 if thing < 0 else thing for thing in hold) for _, hold in told],
                    [keep for _, keep in steps])
            empty = tuple((stand, tuple(range(held))) for stand, held in enumerate(reader[1]))
            self.assertEqual(behaviour(reader, ()), empty)

    def test_the_document(self):
        self.assertEqual(behaviour(FIRST, (((0, 1), 1),)), ((1, (-1,)), (1, (0,))))
        self.assertEqual(behaviour(LAST, (((0, 1), GREAT),)), ((1, (-1,)), (1, (-1,))))
        self.assertEqual(behaviour(FIRST, (((1,), GREAT),)), ((0, ()), (1, (0,))))

    def test_great_rows(self):
        rng = chance(402)
        for _ in range(60):
            reader = some_reader(rng, 2, 6, 4)
            marks = tuple(rng.randrange(2) for _ in range(rng.randint(1, 4)))
            # 10 ** 30 - 1 and 10 ** 30 times end as fewer times do that leave the same rests
            once = behaviour(reader, ((marks, 1),))
            great = behaviour(reader, ((marks, GREAT),))
            self.assertEqual(behaviours_joined(reader, behaviour(reader, ((marks, GREAT - 1),)), once)[0], great)
            self.assertEqual(behaviours_joined(reader, once, behaviour(reader, ((marks, GREAT - 1),)))[0], great)
            half = behaviour(reader, ((marks, GREAT // 2),))
            self.assertEqual(behaviours_joined(reader, half, half)[0], great)
            row = tuple((marks, GREAT) for _ in range(60))
            self.assertEqual(
                behaviours_joined(reader, behaviour(reader, row[:7]), behaviour(reader, row[7:]))[0],
                behaviour(reader, row))

    def test_joined_rows(self):
        rng = chance(403)
        for _ in range(200):
            sorts = rng.randint(1, 3)
            reader = some_reader(rng, sorts, 5, 4)
            row, other = chance_row(rng, sorts, 2, 3, 3), chance_row(rng, sorts, 2, 3, 3)
            word, other_word = marks_of(row), marks_of(other)
            told, kept = behaviours_joined(reader, behaviour(reader, row), behaviour(reader, other))
            whole, places = slow_behaviour(reader, word + other_word)
            self.assertEqual(told, whole)
            ahead, behind = slow_behaviour(reader, word)[1], slow_behaviour(reader, other_word)[1]
            self.assertEqual(places, tuple(
                ahead[number] if side == 0 else len(word) + behind[number] for side, number in kept))

    def test_joined_values_of_no_row(self):
        rng = chance(404)
        for _ in range(300):
            reader = some_reader(rng, 2, 5, 4)
            one, two, three = [chance_behaviour(rng, reader) for _ in range(3)]
            self.assertIs(need_behaviour(reader, one), one)
            self.assertEqual(behaviours_joined(reader, one, two), slow_joined(reader, one, two))
            left = behaviours_joined(reader, behaviours_joined(reader, one, two)[0], three)[0]
            right = behaviours_joined(reader, one, behaviours_joined(reader, two, three)[0])[0]
            self.assertEqual(left, right)
            need_behaviour(reader, left)

    def test_it_tells_the_reading(self):
        rng = chance(405)
        for _ in range(100):
            reader = some_reader(rng, 2, 5, 3)
            row = chance_row(rng, 2, 3, 3, 4)
            word = marks_of(row)
            places = slow_behaviour(reader, word)[1]
            stand, hold = behaviour(reader, row)[0]
            self.assertEqual((stand, tuple(places[-1 - thing] for thing in hold)), slow_reading(reader, word))

    def test_errors(self):
        self.refuses_fit(behaviour)
        good = ((1, (-1,)), (1, (0,)))
        self.refuses_readers(need_behaviour, good)
        self.refuses_readers(behaviours_joined, good, good)
        for value in OTHERS + (
                0, (), good[:1], good + good[1:], list(good), ((1, (-1,)), [1, (0,)]), ((1, (-1,)), (1, [0])),
                ((1, (-1,)), (1,)), ((1, (-1,)), (1, (0,), 0)), ((2, (-1,)), (1, (0,))), ((-1, ()), (1, (0,))),
                ((True, (-1,)), (1, (0,))), ((1, (-1,)), (1, (False,))), ((1, (0,)), (1, (0,))),
                ((1, (-2,)), (1, (0,))), ((1, (-1,)), (1, (1,))), ((1, (-1,)), (1, ())), ((1, (-1,)), (1, (0, 1))),
                ((0, ()), (1, (-2,))), ((0, (-1,)), (1, (0,))), ((1, (-1,)), (1, (-3,))), ((1, (-1,)), (1, (None,))),
                (None, (1, (0,))), ((1, (-1,)), None), ((1, ("0",)), (1, (0,)))):
            self.refuses(BadPaper, {"word": "behaviour"}, need_behaviour, FIRST, value)
            self.refuses(BadPaper, {"word": "behaviour"}, behaviours_joined, FIRST, value, good)
            self.refuses(BadPaper, {"word": "behaviour"}, behaviours_joined, FIRST, value, None)
            self.refuses(BadPaper, {"word": "behaviour"}, behaviours_joined, FIRST, good, value)
        for value in (good, ((1, (-1,)), (1, (-1,))), ((1, (-1,)), (1, (-2,))), ((0, ()), (0, ())), ((0, ()), (1, (-1,)))):
            self.assertIs(need_behaviour(FIRST, value), value)
        two = (1, (0, 2), (((0, ()),), ((1, (0, 1)),)), (-1, 0))
        for hold in ((0, 0), (-1, -1), (-2, -1), (0, 2)):
            self.refuses(BadPaper, {"word": "behaviour"}, need_behaviour, two, ((0, ()), (1, hold)))
        for hold in ((1, 0), (-1, -2), (1, -1), (-1, 0)):
            self.assertEqual(need_behaviour(two, ((0, ()), (1, hold)))[1][1], hold)


if __name__ == "__main__":
    unittest.main()
