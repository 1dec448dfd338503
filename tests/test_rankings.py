"""[65], [66]: rankings, and the readers of them."""

import unittest

from pointingreads.errors import BadNumber, BadRow, BadRule, BadSorts
from pointingreads.least import hands_needed, least_reader, stands_needed
from pointingreads.likes import are_alike
from pointingreads.merging import unmerged
from pointingreads.named import first_of, last_of, reader_named
from pointingreads.ranked import ranking_told
from pointingreads.rankings import (
    all_rankings, need_ranking, ranking_else, ranking_number, ranking_point, reader_of_ranking)
from tests.helpers import (
    FIRST, GREAT, LAST, NO_INTEGERS, OTHERS, Case, chance, chance_reader, chance_row, holding_reader, keen_reader,
    marks_of, mixed, slow_point, words)

NO_ROWS = ((None, None), ((((0,), 1),) * 61, None), ((((0,), 1), ((4,), 1)), 1), ((((0,), True),), 0))


def slow_best(ranking, marks):
    for kind, wanted in ranking:
        places = [place for place, mark in enumerate(marks) if mark in wanted]
        if places:
            return places[0] if kind == "first" else places[-1]
    return None


def stands_of(ranking):
    shared = sum(
        1 for one, two in zip(ranking, ranking[1:]) if one[0] == "last" and two[0] == "first")
    return 1 + len(ranking) - shared


def fails(reader, word, many):
    """Whether a word, taken apart, shows that the reader isn't merged by points."""
    place, other = slow_point(reader, word[:many]), slow_point(reader, word[many:])
    places = [] if place is None else [place]
    if other is not None:
        places.append(many + other)
    best = slow_point(reader, tuple(word[place] for place in places))
    return slow_point(reader, word) != (None if best is None else places[best])


class RankingsTest(Case):
    def test_all_rankings(self):
        self.assertEqual([len(all_rankings(sorts)) for sorts in (1, 2, 3, 4)], [3, 15, 111, 1095])
        self.assertEqual([ranking_number(number) for number in range(6)], [1, 3, 15, 111, 1095, 13503])
        self.assertEqual(all_rankings(1), ((), (("first", (0,)),), (("last", (0,)),)))
        for sorts in (1, 2, 3, 4):
            found = all_rankings(sorts)
            self.assertEqual(list(found), sorted(set(found)))
            for ranking in found:
                self.assertIs(need_ranking(ranking, sorts), ranking)
            # unlike ones have unlike best entries in some row of at most two entries
            tables = {tuple(slow_best(ranking, word) for word in words(sorts, 2)) for ranking in found}
            self.assertEqual(len(tables), len(found))

    def test_great_numbers_of_rankings(self):
        # the numbers of marks that are left over, once for each kind of the first rank
        full = [1]
        rows = [[1]]
        for number in range(1, 201):
            rows.append([1] + [one + two for one, two in zip(rows[-1], rows[-1][1:])] + [1])
            full.append(2 * sum(rows[number][many] * full[many] for many in range(number)))
        for number in (6, 17, 100, 200):
            self.assertEqual(
                ranking_number(number), sum(rows[number][many] * full[many] for many in range(number + 1)))

    def test_readers_of_rankings(self):
        rng = chance(471)
        for sorts in (1, 2, 3, 4):
            found = all_rankings(sorts)
            for ranking in found if sorts < 4 else rng.sample(found, 120):
                reader = reader_of_ranking(ranking, sorts)
                self.assertEqual(least_reader(reader), reader)
                self.assertLessEqual(hands_needed(reader), 1)
                self.assertEqual(stands_needed(reader), stands_of(ranking))
                for word in words(sorts, 4 if sorts < 4 else 3):
                    self.assertEqual(slow_point(reader, word), slow_best(ranking, word))
                for _ in range(3):
                    row = chance_row(rng, 4, 4, 4, 9)
                    self.assertEqual(ranking_point(ranking, row), slow_best(ranking, marks_of(row)))
                self.assertEqual(ranking_told(mixed(rng, reader)), ranking)
                self.assertIsNone(unmerged(mixed(rng, reader)))
        for order in ((0, 1), (1, 0), (1,)):
            self.assertIs(are_alike(first_of(order, 2), reader_of_ranking(
                tuple(("first", (mark,)) for mark in order), 2)), True)
            self.assertIs(are_alike(last_of(order, 2), reader_of_ranking(
                tuple(("last", (mark,)) for mark in order), 2)), True)

    def test_rankings_of_readers(self):
        rng = chance(472)
        steady = 0
        for number in range(600):
            sorts = rng.randint(1, 2)
            make = holding_reader if number % 2 else chance_reader
            reader = make(rng, sorts, rng.randint(1, 4), rng.randint(1, 2))
            some = [ranking for ranking in all_rankings(sorts) if all(
                slow_point(reader, word) == slow_best(ranking, word) for word in words(sorts, {1: 12, 2: 6}[sorts]))]
            found = ranking_told(reader)
            self.assertEqual(found, some[0] if some else None)
            steady += found is not None
        self.assertGreater(steady, 100)
        self.assertEqual(ranking_told(reader_named("first", 3)), (("first", (0, 1, 2)),))
        self.assertEqual(ranking_told(FIRST), (("first", (0,)),))
        self.assertEqual(ranking_told(LAST), (("last", (0, 1)),))
        self.assertEqual(ranking_told(reader_named("none", 2)), ())

    def test_points_of_great_rows(self):
        row = (((1, 2), GREAT), ((0, 3, 2), GREAT), ((1,), GREAT))
        for ranking, place in (
                ((), None), ((("first", (0,)),), 2 * GREAT), ((("last", (0,)),), 5 * GREAT - 3),
                ((("last", (2, 3)),), 5 * GREAT - 1), ((("first", (1, 2)), ("last", (0,))), 0),
                ((("last", (1,)), ("first", (0,))), 6 * GREAT - 1), ((("first", (3,)),), 2 * GREAT + 1)):
            self.assertEqual(ranking_point(ranking, row), place)
            self.assertIsNone(ranking_point(ranking, ()))
        self.assertIsNone(ranking_point((("first", (0,)), ("last", (3,))), (((1, 2), GREAT),)))
        self.assertEqual(ranking_point((("first", (0,)), ("last", (1, 3))), (((1, 2), GREAT),)), 2 * GREAT - 2)

    def test_else(self):
        one = (("last", (1, 3)),)
        self.assertEqual(ranking_else(one, ()), one)
        self.assertEqual(ranking_else((), one), one)
        self.assertEqual(ranking_else(one, (("first", (3,)), ("last", (0, 1)))), one + (("last", (0,)),))
        self.assertEqual(ranking_else(one, one), one)
        self.assertEqual(ranking_else(one, (("first", (0, 1, 2)), ("last", (3,)))), one + (("first", (0, 2)),))
        rng = chance(473)
        some = all_rankings(3)
        for _ in range(200):
            one, two = rng.choice(some), rng.choice(some)
            found = ranking_else(one, two)
            need_ranking(found, 3)
            for word in words(3, 4):
                place = slow_best(one, word)
                self.assertEqual(slow_best(found, word), slow_best(two, word) if place is None else place)

    def test_errors(self):
        good = (("first", (0, 2)), ("last", (1,)))
        bad = OTHERS + (
            0, list(good), (None,), ("first", (0,)), (("first",),), (("first", (0,), 0),), (["first", (0,)],),
            (("second", (0,)),), ((None, (0,)),), ((b"first", (0,)),), (("first", ()),), (("first", [0]),),
            (("first", 0),), (("first", (4,)),), (("first", (-1,)),), (("first", (True,)),), (("first", (1, 0)),),
            (("first", (0, 0)),), (("first", (0,)), ("last", (0,))), (("first", (0, 1)), ("last", (1, 2))),
            (("first", ("0",)),), good + (("first", (4,)),), good + (("first", ()),))
        for value in bad:
            for sorts in (3, None):
                self.refuses(BadRule, {"word": "ranking"}, need_ranking, value, sorts)
                self.refuses(BadRule, {"word": "ranking"}, reader_of_ranking, value, sorts)
            for row in ((), None):
                self.refuses(BadRule, {"word": "ranking"}, ranking_point, value, row)
            self.refuses(BadRule, {"word": "ranking"}, ranking_else, value, None)
            self.refuses(BadRule, {"word": "ranking"}, ranking_else, good, value)
        for function in (need_ranking, reader_of_ranking):
            for sorts in NO_INTEGERS + (0, 5, -1, 10 ** 900):
                self.refuses(BadSorts, {"value": sorts}, function, good, sorts)
            self.refuses(BadRule, {"word": "mark"}, function, good, 2)
            self.refuses(BadRule, {"word": "mark"}, function, (("first", (3,)),), 3)
        for value, place in NO_ROWS:
            self.refuses(BadRow, {"place": place}, ranking_point, good, value)
        for sorts in NO_INTEGERS + (0, 5, -1):
            self.refuses(BadSorts, {"value": sorts}, all_rankings, sorts)
        for number in NO_INTEGERS + (-1, 201, 10 ** 900):
            self.refuses(BadNumber, {"value": number}, ranking_number, number)
        self.assertEqual(need_ranking((), 1), ())


class MergingTest(Case):
    """[61]: readers that are merged by points."""

    def test_against_slow(self):
        rng = chance(474)
        for number in range(400):
            sorts = rng.randint(1, 3)
            make = (chance_reader, holding_reader, keen_reader, keen_reader)[number % 4]
            reader = make(rng, sorts, rng.randint(2, 5), rng.randint(1, 3))
            deep = {1: 10, 2: 6, 3: 4}[sorts]
            slow = [
                (word[:many], word[many:]) for word in words(sorts, deep) for many in range(len(word) + 1)
                if fails(reader, word, many)]
            found = unmerged(reader)
            self.assertIs(found is None, ranking_told(reader) is not None)
            self.assertEqual(unmerged(mixed(rng, reader)), found)
            if slow:
                self.assertEqual(found, slow[0])
            elif found is not None:
                self.assertGreater(len(found[0] + found[1]), deep)
                self.assertTrue(fails(reader, found[0] + found[1], len(found[0])))

    def test_named_readers(self):
        for name, found in (
                ("none", None), ("first", None), ("last", None), ("second", ((), (0, 0))),
                ("next to last", ((), (0, 0))), ("third", ((), (0, 0, 0))), ("first or last", ((0,), (0, 0))),
                ("new", ((0,), (1, 0))), ("even last", ((0,), (0, 0))), ("same as first", ((0,), (1, 0)))):
            self.assertEqual(unmerged(reader_named(name, 2)), found, name)

    def test_late_failures(self):
        # it points at the first entry, but in rows with exactly so many entries at none
        for many in (4, 50):
            steps = (((1, (-1,)),),) + tuple(((min(stand + 1, many + 1), (0,)),) for stand in range(1, many + 2))
            reader = (1, (0,) + (1,) * (many + 1), steps, (-1,) + (0,) * (many - 1) + (-1, 0))
            self.assertEqual(unmerged(reader), ((0,), (0,) * (many - 1)))

    def test_errors(self):
        self.refuses_readers(unmerged)


if __name__ == "__main__":
    unittest.main()
