"""[80], [81], [82]: orders, shares, scarce rows."""

from pointingreads.ends import candidates
from pointingreads.errors import BadNumber, BadPlace, NotSteady, TooGreat
from pointingreads.least import hands_needed
from pointingreads.named import NAMES, reader_named
from pointingreads.ordering import order_at, order_number, order_of, order_rank
from pointingreads.rankings import all_rankings, reader_of_ranking
from pointingreads.scarce import least_scarce
from pointingreads.sharing import shares
from pointingreads.steadiness import is_steady, ranking_of
from tests.helpers import (
    FIRST, GREAT, LAST, NO_INTEGERS, NO_ROWS, ODD, Case, as_row, chance, chance_reader, chance_row, holding_reader,
    keen_reader, marks_of, mixed, slow_point, words)

SECOND = reader_named("second", 2)


def chance_any(rng, sorts):
    if rng.random() < 0.5:
        return mixed(rng, reader_of_ranking(rng.choice(all_rankings(sorts)), sorts))
    return rng.choice((chance_reader, holding_reader, keen_reader))(rng, sorts, rng.randint(2, 4), rng.randint(1, 2))


def slow_taken(readers, word):
    """The places that the readers take by turns."""
    left = list(range(len(word)))
    found = [[] for _ in readers]
    turn = 0
    while True:
        points = [slow_point(reader, tuple(word[place] for place in left)) for reader in readers]
        if points == [None] * len(readers):
            return tuple(map(tuple, found))
        if points[turn] is not None:
            found[turn].append(left.pop(points[turn]))
        turn = (turn + 1) % len(readers)


class OrderTest(Case):
    def test_against_slow(self):
        rng = chance(551)
        for _ in range(150):
            sorts = rng.randint(1, 4)
            reader = chance_any(rng, sorts)
            row = chance_row(rng, sorts, 4, 3, 4)
            word = marks_of(row)
            order = order_of(reader, row)
            self.assertEqual(order, slow_taken((reader,), word)[0])
            if not is_steady(reader):
                continue
            self.assertEqual(order_number(reader, row), len(order))
            for number, place in enumerate(order):
                self.assertEqual(order_at(reader, row, number), place)
                self.assertEqual(order_rank(reader, row, place), number)
            self.assertIsNone(order_at(reader, row, len(order)))
            for place in set(range(len(word))) - set(order):
                self.assertIsNone(order_rank(reader, row, place))
            # the fact
            told = [
                place for end, marks in ranking_of(reader)
                for place in sorted(range(len(word)), reverse=end == "last") if word[place] in marks]
            self.assertEqual(list(order), told)

    def test_great_rows(self):
        reader = reader_of_ranking((("last", (1, 3)), ("first", (0,))), 4)
        row = (((0, 1, 2, 3), GREAT), ((1, 1, 0), GREAT))
        self.assertEqual(order_number(reader, row), 6 * GREAT)
        self.assertEqual(order_at(reader, row, 0), 7 * GREAT - 2)
        self.assertEqual(order_at(reader, row, 2), 7 * GREAT - 5)
        self.assertEqual(order_at(reader, row, 2 * GREAT), 4 * GREAT - 1)
        self.assertEqual(order_at(reader, row, 4 * GREAT), 0)
        self.assertEqual(order_at(reader, row, 5 * GREAT), 4 * GREAT + 2)
        self.assertEqual(order_at(reader, row, 6 * GREAT - 1), 7 * GREAT - 1)
        self.assertEqual(order_at(reader, row, 6 * GREAT), None)
        self.assertEqual(order_at(reader, row, 10 ** 40), None)
        rng = chance(552)
        for _ in range(60):
            reader = reader_of_ranking(rng.choice(all_rankings(3)), 3)
            row = chance_row(rng, 3, 60, 60, GREAT)
            many = order_number(reader, row)
            for _ in range(6):
                number = rng.randint(0, many)
                place = order_at(reader, row, number)
                self.assertEqual(place is None, number == many)
                if place is not None:
                    self.assertEqual(order_rank(reader, row, place), number)

    def test_named_ones(self):
        self.assertEqual(order_of(SECOND, (((0, 1), 2),)), (1, 2, 3))
        self.assertEqual(order_of(reader_named("next to last", 2), (((0, 1), 2),)), (2, 1, 0))
        self.assertEqual(order_of(LAST, ()), ())
        self.assertEqual(order_of(reader_named("last", 1), (((0,), 300),)), tuple(range(299, -1, -1)))
        for name in NAMES:
            if name not in ("none", "first", "last"):
                self.refuses(NotSteady, {}, order_number, reader_named(name, 2), ())

    def test_wrong_ones(self):
        self.refuses_fit(order_of)
        self.refuses(TooGreat, {"most": 300}, order_of, LAST, (((0,), 301),))
        for function, rest in ((order_number, ()), (order_at, (0,)), (order_rank, (0,))):
            self.refuses_fit(function, *rest)
            for value, _ in NO_ROWS:
                self.refuses(NotSteady, {}, function, SECOND, value, *rest)
            self.refuses(NotSteady, {}, function, SECOND, (((0,), 2),), *[ODD for _ in rest])
        row = (((0, 1), GREAT),)
        for value in NO_INTEGERS + (-1, 10 ** 40 + 1):
            self.refuses(BadNumber, {"value": value}, order_at, LAST, row, value)
        for value in NO_INTEGERS + (-1, 2 * GREAT):
            self.refuses(BadPlace, {"place": value}, order_rank, LAST, row, value)
        self.refuses(BadPlace, {"place": 0}, order_rank, LAST, (), 0)


class SharesTest(Case):
    def test_against_slow(self):
        rng = chance(553)
        for _ in range(150):
            sorts = rng.randint(1, 4)
            reader, other = chance_any(rng, sorts), chance_any(rng, sorts)
            row = chance_row(rng, sorts, 4, 3, 3)
            self.assertEqual(shares(reader, other, row), slow_taken((reader, other), marks_of(row)))
            order = order_of(reader, row)
            self.assertEqual(shares(reader, reader, row), (order[::2], order[1::2]))
            if is_steady(reader) and is_steady(other):
                told = [{mark for _, marks in ranking_of(one) for mark in marks} for one in (reader, other)]
                taken = shares(reader, other, row)
                word = marks_of(row)
                for marks, places in zip(told, taken):
                    self.assertTrue({word[place] for place in places} <= marks)
                self.assertEqual(
                    sorted(taken[0] + taken[1]),
                    [place for place, mark in enumerate(word) if mark in told[0] | told[1]])

    def test_named_ones(self):
        last = reader_named("last", 2)
        self.assertEqual(shares(FIRST, last, (((1, 0), 2),)), ((1,), (3, 2, 0)))
        self.assertEqual(shares(FIRST, FIRST, (((1,), 2),)), ((), ()))
        self.assertEqual(shares(last, SECOND, (((0,), 4),)), ((3, 2, 0), (1,)))
        # one that points at the first of an odd number of entries waits until the other one has taken one
        odd = (1, (0, 1, 1), (((1, (-1,)),), ((2, (0,)),), ((1, (0,)),)), (-1, 0, -1))
        only = reader_named("last", 1)
        self.assertEqual(shares(odd, only, (((0,), 4),)), ((0, 1), (3, 2)))
        self.assertEqual(shares(odd, reader_named("none", 1), (((0,), 4),)), ((), ()))
        self.assertEqual(shares(odd, reader_named("none", 1), (((0,), 5),)), ((0,), ()))
        self.assertEqual(len(shares(last, last, (((0, 1), 150),))[0]), 150)

    def test_wrong_ones(self):
        self.refuses_two(shares, ())
        self.refuses_rows(shares, FIRST, LAST)
        self.refuses(TooGreat, {"most": 300}, shares, FIRST, LAST, (((0,), 301),))


class ScarceTest(Case):
    def test_against_slow(self):
        rng = chance(554)
        for _ in range(120):
            sorts = rng.randint(1, 3)
            reader = chance_any(rng, sorts)
            first = {}
            for word in words(sorts, {1: 9, 2: 6, 3: 4}[sorts]):
                first.setdefault(len(candidates(reader, as_row(word))), word)
            for number in range(9):
                told = least_scarce(reader, number)
                self.assertEqual(told is None, number > hands_needed(reader))
                if number in first:
                    self.assertEqual(told, first[number])
                elif told is not None:
                    self.assertEqual(len(candidates(reader, as_row(told))), number)

    def test_named_ones(self):
        self.assertEqual([least_scarce(LAST, number) for number in range(3)], [(), (0,), None])
        held = tuple(range(9))
        steps = tuple(((min(stand + 1, 8), tuple(range(-1, min(stand, 7)))),) * 2 for stand in range(9))
        eight = (2, held, steps, (-1,) * 8 + (7,))
        self.assertEqual([least_scarce(eight, number) for number in (0, 1, 7, 8)], [(), (0,), (0,) * 7, (0,) * 8])

    def test_wrong_ones(self):
        self.refuses_readers(least_scarce, 0)
        for value in NO_INTEGERS + (-1, 9):
            self.refuses(BadNumber, {"value": value}, least_scarce, LAST, value)
