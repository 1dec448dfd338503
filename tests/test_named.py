"""[32]: the named readers, and those of an order."""

import itertools
import unittest

from pointingreads.errors import BadName, BadRule, BadSorts
from pointingreads.named import NAMES, first_of, last_of, reader_named
from pointingreads.reading import point, points_along
from pointingreads.readers import is_reader
from tests.helpers import GREAT, NO_INTEGERS, OTHERS, Case, as_row, words


def place_or_none(places, number):
    return places[number] if -len(places) <= number < len(places) else None


def slow_named(name, word):
    places = range(len(word))
    if name == "new":
        return max((at for at in places if at == 0 or word[at] != word[at - 1]), default=None)
    if name == "even last":
        return max((at for at in places if at % 2 == 0), default=None)
    if name == "same as first":
        return max((at for at in places if word[at] == word[0]), default=None)
    if name == "first or last":
        return place_or_none(places, 0 if len(word) % 2 == 0 else -1)
    number = {"none": len(word), "first": 0, "last": -1, "second": 1, "next to last": -2, "third": 2}[name]
    return place_or_none(places, number)


def slow_order(order, word, number):
    for mark in order:
        if mark in word:
            return [at for at, other in enumerate(word) if other == mark][number]
    return None


class NamedTest(Case):
    def test_all_names(self):
        for sorts in (1, 2, 3, 4):
            for name in NAMES:
                reader = reader_named(name, sorts)
                self.assertIs(is_reader(reader), True)
                self.assertEqual(reader[0], sorts)
                for word in words(sorts, {1: 9, 2: 7, 3: 5, 4: 4}[sorts]):
                    self.assertEqual(point(reader, as_row(word)), slow_named(name, word), (name, word))

    def test_long_rows(self):
        row = (((0, 0, 1), GREAT), ((1,), 2))
        told = {
            "none": None, "first": 0, "last": 3 * GREAT + 1, "second": 1, "next to last": 3 * GREAT,
            "third": 2, "first or last": 0, "new": 3 * GREAT - 1, "even last": 3 * GREAT,
            "same as first": 3 * GREAT - 2}
        for name in NAMES:
            self.assertEqual(point(reader_named(name, 2), row), told[name], name)

    def test_orders(self):
        for sorts in (1, 2, 3, 4):
            for many in range(1, sorts + 1):
                for order in itertools.permutations(range(sorts), many):
                    first, last = first_of(order, sorts), last_of(order, sorts)
                    self.assertTrue(is_reader(first) and is_reader(last))
                    self.assertEqual((first[0], last[0]), (sorts, sorts))
                    for word in words(sorts, 4):
                        row = as_row(word)
                        self.assertEqual(point(first, row), slow_order(order, word, 0))
                        self.assertEqual(point(last, row), slow_order(order, word, -1))

    def test_along(self):
        self.assertEqual(
            points_along(reader_named("first or last", 1), (((0,), 6),)), (None, 0, 0, 2, 0, 4, 0))

    def test_name_errors(self):
        for name in OTHERS + (3, (), "First", "first ", ("first",), "even"):
            self.refuses(BadName, {"name": name}, reader_named, name, None)
        for sorts in NO_INTEGERS + (0, 5, -1):
            self.refuses(BadSorts, {"value": sorts}, reader_named, "new", sorts)
            self.refuses(BadSorts, {"value": sorts}, reader_named, "none", sorts)

    def test_order_errors(self):
        for function in (first_of, last_of):
            for order in OTHERS + (
                    0, (), (0, 0), (4,), (-1,), (0, 1, 2, 3, 0), (0, True), (False,), [0], (0, None), (1, 0, 1)):
                self.refuses(BadRule, {"word": "order"}, function, order, None)
            for sorts in NO_INTEGERS + (0, 5):
                self.refuses(BadSorts, {"value": sorts}, function, (3, 0), sorts)
            self.refuses(BadRule, {"word": "mark"}, function, (0, 3), 3)
            self.refuses(BadRule, {"word": "mark"}, function, (1,), 1)


if __name__ == "__main__":
    unittest.main()
