"""[13], [48], [49]: live hands, pointers, least readers."""

import unittest

from pointingreads.errors import BadReader
from pointingreads.least import hands_needed, least_reader, live_words, stands_needed
from pointingreads.named import NAMES, reader_named
from pointingreads.readers import is_reader, met_stands
from tests.helpers import Case, chance, chance_reader, slow_point, slow_reading, words

FIRST = (2, (0, 1), (((1, (-1,)), (0, ())), ((1, (0,)), (1, (0,)))), (-1, 0))


def slow_pointers(reader, stand, deep):
    """For each hand of a stand the first of the words of a few marks that points at it."""
    held = reader[1][stand]
    found = [None] * held
    for word in words(reader[0], deep):
        there, places = slow_reading(reader, word, stand, tuple(range(-1, -1 - held, -1)))
        hand = reader[3][there]
        if hand >= 0 and places[hand] < 0 and found[-1 - places[hand]] is None:
            found[-1 - places[hand]] = word
    return tuple(found)


def slow_least(reader, deep):
    """The least reader by what is pointed at in words of a few marks alone."""
    around = list(words(reader[0], deep))

    def signs(ahead):
        """How words behind are pointed at, and the entries that are, by their first words."""
        hands, told = [], []
        for word in around:
            place = slow_point(reader, ahead + word)
            if place is None or place >= len(ahead):
                told.append(None if place is None else ("new", place - len(ahead)))
            else:
                if place not in hands:
                    hands.append(place)
                told.append(hands.index(place))
        return tuple(told), hands
    order, numbers = [()], {signs(())[0]: 0}
    steps = []
    while len(steps) < len(order):
        ahead = order[len(steps)]
        hands = signs(ahead)[1]
        row = []
        for mark in range(reader[0]):
            told, there = signs(ahead + (mark,))
            if told not in numbers:
                numbers[told] = len(order)
                order.append(ahead + (mark,))
            row.append((numbers[told], tuple(
                -1 if place == len(ahead) else hands.index(place) for place in there)))
        steps.append(tuple(row))
    held = tuple(len(signs(ahead)[1]) for ahead in order)
    points = []
    for ahead in order:
        place = slow_point(reader, ahead)
        points.append(-1 if place is None else signs(ahead)[1].index(place))
    return (reader[0], held, tuple(steps), tuple(points))


def padded(rng, reader):
    """A reader that is alike: stands double, hands mixed, one hand more where there is room."""
    sorts, held, steps, points = reader
    many = len(held)
    names = [0] + rng.sample(range(1, 2 * many), 2 * many - 1)
    old = {name: number % many for number, name in enumerate(names)}
    new = [[name for name in names if old[name] == number] for number in range(many)]
    more = {name: 1 if name and held[old[name]] < 8 else 0 for name in names}
    hands = {
        name: rng.sample(range(held[old[name]] + more[name]), held[old[name]] + more[name]) for name in names}
    told = []
    for name in range(2 * many):
        row = []
        for there, keep in steps[old[name]]:
            to = rng.choice(new[there])
            held_there = [None] * (len(keep) + more[to])
            for hand, kept in enumerate(keep):
                held_there[hands[to][hand]] = -1 if kept < 0 else hands[name][kept]
            spare = [hand for hand in range(-1, len(hands[name])) if hand not in held_there]
            if more[to] and not spare:
                to = None
            for hand, kept in enumerate(held_there):
                if kept is None and spare:
                    held_there[hand] = spare[0]
            row.append((to, tuple(held_there)))
        told.append(tuple(row))
    counts = tuple(held[old[name]] + more[name] for name in range(2 * many))
    ends = tuple(-1 if points[old[name]] < 0 else hands[name][points[old[name]]] for name in range(2 * many))
    return (sorts, counts, tuple(told), ends)


class LeastTest(Case):
    def test_live_words(self):
        rng = chance(111)
        for _ in range(150):
            sorts = rng.randint(1, 3)
            reader = chance_reader(rng, sorts, rng.randint(1, 5), rng.randint(0, 3))
            deep = {1: 16, 2: 8, 3: 5}[sorts]
            found = live_words(reader)
            self.assertEqual(len(found), len(reader[1]))
            for stand, told in enumerate(found):
                slow = slow_pointers(reader, stand, deep)
                self.assertEqual(len(told), len(slow))
                for word, slow_word in zip(told, slow):
                    if slow_word is None and word is not None:
                        self.assertGreater(len(word), deep)
                    else:
                        self.assertEqual(word, slow_word)

    def test_hands_that_are_not_live_and_stands_that_are_not_met(self):
        reader = (1, (0, 2, 1), (((0, ()),), ((1, (1, 0)),), ((2, (0,)),)), (-1, 0, -1))
        self.assertEqual(live_words(reader), ((), ((), (0,)), (None,)))
        self.assertEqual(least_reader(reader), (1, (0,), (((0, ()),),), (-1,)))

    def test_by_the_points_alone(self):
        rng = chance(112)
        for _ in range(60):
            reader = chance_reader(rng, 2, rng.randint(1, 4), rng.randint(0, 2))
            self.assertEqual(least_reader(reader), slow_least(reader, 6), reader)
        for _ in range(30):
            reader = chance_reader(rng, 1, rng.randint(1, 6), rng.randint(0, 3))
            self.assertEqual(least_reader(reader), slow_least(reader, 16), reader)

    def test_one_for_all_that_are_alike(self):
        rng = chance(113)
        met = 0
        for _ in range(300):
            reader = chance_reader(rng, rng.randint(1, 4), rng.randint(1, 9), rng.randint(0, 5))
            least = least_reader(reader)
            self.assertIs(is_reader(least), True)
            self.assertEqual(least_reader(least), least)
            self.assertEqual(met_stands(least), tuple(range(len(least[1]))))
            self.assertEqual(stands_needed(reader), len(least[1]))
            self.assertEqual(hands_needed(reader), max(least[1]))
            self.assertLessEqual(len(least[1]), len(met_stands(reader)))
            for word in words(reader[0], 3):
                self.assertEqual(slow_point(least, word), slow_point(reader, word))
                hands = least[1][slow_reading(least, word)[0]]
                self.assertLessEqual(hands, reader[1][slow_reading(reader, word)[0]])
            other = padded(rng, reader)
            if is_reader(other):
                met += 1
                self.assertEqual(least_reader(other), least)
        self.assertGreater(met, 20)

    def test_named_readers(self):
        needed = {
            "none": (1, 0), "first": (2, 1), "last": (2, 1), "second": (3, 1), "next to last": (3, 2),
            "third": (4, 1), "first or last": (4, 2), "new": (3, 1), "even last": (3, 1),
            "same as first": (3, 1)}
        for name in NAMES:
            reader = reader_named(name, 2)
            self.assertEqual((stands_needed(reader), hands_needed(reader)), needed[name], name)
        self.assertEqual(least_reader(FIRST), FIRST)
        self.assertEqual(live_words(FIRST), ((), ((),)))
        self.assertEqual(
            live_words(reader_named("next to last", 2)), ((), ((0,),), ((), (0,))))

    def test_the_hands_stand_by_their_pointers(self):
        # four hands: the fourth last entry and those behind it, the mark 1 keeps all
        keeping = tuple((stand, tuple(range(stand))) for stand in range(5))
        steps = tuple(
            ((stand + 1, tuple(range(stand)) + (-1,)) if stand < 4 else (4, (1, 2, 3, -1)), keeping[stand])
            for stand in range(5))
        reader = (2, (0, 1, 2, 3, 4), steps, (-1, -1, -1, -1, 0))
        self.assertEqual(live_words(reader)[4], ((), (0,), (0, 0), (0, 0, 0)))
        self.assertEqual(least_reader(reader), reader)
        turned = (2, (0, 1, 2, 3, 4), tuple(
            tuple(
                (there, tuple(-1 if hand < 0 else len(keep) - 1 - hand for hand in keep[::-1])
                 if mark == 1 else tuple(
                     -1 if hand < 0 else stand - 1 - hand for hand in keep[::-1]))
                for mark, (there, keep) in enumerate(row))
            for stand, row in enumerate(steps)), (-1, -1, -1, -1, 3))
        self.assertEqual(least_reader(turned), reader)
        self.assertNotEqual(turned, reader)

    def test_two_hundred_stands(self):
        steps = [((1, (-1,)),)]
        held = (0,) + tuple(min(8, stand) for stand in range(1, 200))
        for stand in range(1, 200):
            there = stand + 1 if stand < 199 else 199
            keep = tuple(range(held[stand])) + (-1,)
            steps.append(((there, keep[-held[there]:]),))
        reader = (1, held, tuple(steps), (-1,) * 199 + (0,))
        self.assertIs(is_reader(reader), True)
        least = least_reader(reader)
        self.assertEqual(stands_needed(reader), 200)
        self.assertEqual(hands_needed(reader), 8)
        self.assertEqual(slow_point(least, (0,) * 230), slow_point(reader, (0,) * 230))
        self.assertEqual(live_words(reader)[1], (None,))
        self.assertEqual(live_words(reader)[195], (None, None, None, None, (0, 0, 0, 0), (0,) * 5, (0,) * 6, (0,) * 7))

    def test_errors(self):
        for function in (live_words, least_reader, hands_needed, stands_needed):
            self.refuses(BadReader, {"word": "form", "stand": None}, function, None)
            self.refuses(BadReader, {"word": "points", "stand": 1}, function, FIRST[:3] + ((-1, 1),))


if __name__ == "__main__":
    unittest.main()
