"""[59]: summaries, merged in any brackets."""

import unittest

from pointingreads.behaviours import behaviour, behaviours_joined
from pointingreads.errors import BadNumber, BadPaper, BadReader, BadRow, TooGreat
from pointingreads.reading import point
from pointingreads.summaries import (
    need_summary, summaries_merged, summary, summary_often, summary_point, tree_summary)
from tests.helpers import (
    FIRST, GREAT, LAST, NO_INTEGERS, NO_ROWS, ODD, OTHERS, SPOILT, Case, chance, chance_reader, chance_row,
    keen_reader, marks_of, slow_behaviour, slow_point, split_row)

MOST = 10 ** 200


def slow_summary(reader, word):
    return (len(word),) + slow_behaviour(reader, word)


def slow_merged(reader, value, other):
    told, kept = behaviours_joined(reader, value[1], other[1])
    return (value[0] + other[0], told, tuple(
        value[2][number] if side == 0 else value[0] + other[2][number] for side, number in kept))


def chance_tree(rng, sorts, deep):
    """A tree of parts, and the word that it stands for."""
    kind = rng.choice(("row", "join", "times")) if deep > 1 else "row"
    if kind == "row":
        row = chance_row(rng, sorts, 2, 3, 3)
        return ("row", row), marks_of(row)
    if kind == "times":
        tree, word = chance_tree(rng, sorts, deep - 1)
        times = rng.randint(0, 3)
        return ("times", tree, times), word * times
    parts = [chance_tree(rng, sorts, deep - 1) for _ in range(rng.randint(0, 3))]
    return ("join", tuple(tree for tree, _ in parts)), tuple(mark for _, word in parts for mark in word)


def nested(many, inner):
    """A tree with so many trees around another one."""
    for number in range(many):
        inner = ("times", inner, 1) if number % 2 else ("join", (inner,))
    return inner


class SummariesTest(Case):
    def chances(self, seed, many):
        rng = chance(seed)
        for _ in range(many):
            sorts = rng.randint(1, 3)
            yield rng, sorts, rng.choice((chance_reader, keen_reader))(rng, sorts, 5, rng.randint(1, 4))

    def test_against_slow(self):
        for rng, sorts, reader in self.chances(431, 200):
            row, other = chance_row(rng, sorts, 3, 4, 4), chance_row(rng, sorts, 3, 4, 4)
            word, other_word = marks_of(row), marks_of(other)
            found = summary(reader, row)
            self.assertEqual(found, slow_summary(reader, word))
            self.assertEqual(summary(reader, split_row(rng, row)), found)
            self.assertIs(need_summary(reader, found), found)
            self.assertEqual(summary_point(reader, found), slow_point(reader, word))
            merged = summaries_merged(reader, found, summary(reader, other))
            self.assertEqual(merged, slow_summary(reader, word + other_word))
            self.assertEqual(slow_merged(reader, found, summary(reader, other)), merged)
            for times in (0, 1, 2, 3, 5, 8):
                self.assertEqual(summary_often(reader, found, times), slow_summary(reader, word * times))

    def test_trees(self):
        for rng, sorts, reader in self.chances(432, 200):
            tree, word = chance_tree(rng, sorts, 5)
            self.assertEqual(tree_summary(reader, tree), slow_summary(reader, word))
        self.assertEqual(tree_summary(FIRST, ("join", ())), summary(FIRST, ()))
        self.assertEqual(tree_summary(FIRST, ("times", ("row", (((0,), 1),)), 0)), summary(FIRST, ()))

    def test_any_brackets(self):
        for rng, sorts, reader in self.chances(433, 60):
            rows = [chance_row(rng, sorts, 3, 4, GREAT) for _ in range(3)]
            one, two, three = [summary(reader, row) for row in rows]
            left = summaries_merged(reader, summaries_merged(reader, one, two), three)
            right = summaries_merged(reader, one, summaries_merged(reader, two, three))
            whole = rows[0] + rows[1] + rows[2]
            self.assertEqual(left, right)
            self.assertEqual(left, summary(reader, whole))
            self.assertEqual(summary_point(reader, left), point(reader, whole))
            tree = ("join", (("row", rows[0]), ("join", (("row", rows[1]), ("row", rows[2])))))
            self.assertEqual(tree_summary(reader, tree), left)
            self.assertEqual(left[1], behaviour(reader, whole))

    def test_values_of_no_row(self):
        rng = chance(434)
        for _ in range(100):
            values = []
            for _ in range(3):
                places = rng.sample(range(9), 2)
                values.append((9, rng.choice((
                    ((1, (-1,)), (1, (-2,))), ((0, ()), (1, (-1,))), ((1, (-1,)), (1, (0,))), ((1, (-1,)), (1, (-1,))))), places))
            told = []
            for length, behaviour_told, places in values:
                many = -min(thing for _, hold in behaviour_told for thing in hold)
                told.append((length, behaviour_told, tuple(places[:many])))
            one, two, three = told
            self.assertEqual(summaries_merged(FIRST, one, two), slow_merged(FIRST, one, two))
            left = summaries_merged(FIRST, summaries_merged(FIRST, one, two), three)
            self.assertEqual(left, summaries_merged(FIRST, one, summaries_merged(FIRST, two, three)))
            often = summary_often(FIRST, one, 3)
            self.assertEqual(often, slow_merged(FIRST, slow_merged(FIRST, one, one), one))
            self.assertEqual(summary_often(FIRST, one, 1), one)

    def test_great_numbers(self):
        one = summary(LAST, (((0, 1), GREAT),))
        self.assertEqual(one, (2 * GREAT, ((1, (-1,)), (1, (-1,))), (2 * GREAT - 1,)))
        great = one
        for _ in range(5):
            great = summary_often(LAST, great, GREAT)
        self.assertEqual(great, (2 * GREAT ** 6, one[1], (2 * GREAT ** 6 - 1,)))
        self.assertEqual(summary_point(LAST, great), 2 * GREAT ** 6 - 1)
        whole = summary_often(LAST, great, 5 * 10 ** 19)
        self.assertEqual(whole[0], MOST)
        self.refuses(TooGreat, {"most": MOST}, summary_often, LAST, great, 5 * 10 ** 19 + 1)
        self.refuses(TooGreat, {"most": MOST}, summaries_merged, LAST, whole, summary(LAST, (((0,), 1),)))
        self.assertEqual(summaries_merged(LAST, whole, summary(LAST, ())), whole)
        self.assertEqual(summary_often(LAST, whole, 0), summary(LAST, ()))
        tree = ("row", (((0, 1), GREAT),))
        for _ in range(5):
            tree = ("times", tree, GREAT)
        self.assertEqual(tree_summary(LAST, ("times", tree, 5 * 10 ** 19)), whole)
        self.assertEqual(tree_summary(LAST, ("times", tree, 0)), summary(LAST, ()))
        for times in (5 * 10 ** 19 + 1, GREAT):
            for around in (("times", ("times", tree, times), 0), ("join", (("join", ()), ("times", tree, times)))):
                self.refuses(TooGreat, {"most": MOST}, tree_summary, LAST, around)
        half = ("times", tree, 3 * 10 ** 19)
        self.refuses(TooGreat, {"most": MOST}, tree_summary, LAST, ("join", (half, half)))
        # the exact bound is of each tree by itself
        self.assertEqual(tree_summary(LAST, ("join", (half,)))[0], 6 * 10 ** 199)

    def test_twelve_and_four_hundred_trees(self):
        row = ("row", (((0,), 1),))
        self.assertEqual(tree_summary(FIRST, nested(11, row)), summary(FIRST, row[1]))
        self.refuses(BadPaper, {"word": "tree"}, tree_summary, FIRST, nested(12, row))
        self.refuses(BadPaper, {"word": "tree"}, tree_summary, FIRST, nested(50, row))
        two = ("join", (("join", (row,) * 199), ("join", (row,) * 198)))
        self.assertEqual(tree_summary(FIRST, two)[0], 397)
        self.refuses(BadPaper, {"word": "tree"}, tree_summary, FIRST, ("join", (("join", (row,) * 199),) * 2))
        self.assertEqual(tree_summary(FIRST, ("join", (row,) * 200))[0], 200)
        self.refuses(BadPaper, {"word": "tree"}, tree_summary, FIRST, ("join", (row,) * 201))
        # few things, but very many trees if each is counted as often as it stands there
        many = row
        for _ in range(11):
            many = ("join", (many,) * 200)
        self.refuses(BadPaper, {"word": "tree"}, tree_summary, FIRST, many)

    def test_errors(self):
        self.refuses_fit(summary)
        good = summary(FIRST, (((1, 0), 2),))
        self.assertEqual(good, (4, ((1, (-1,)), (1, (0,))), (1,)))
        self.refuses_readers(need_summary, good)
        self.refuses_readers(summaries_merged, good, good)
        self.refuses_readers(summary_often, good, 1)
        self.refuses_readers(summary_point, good)
        for value in OTHERS + (
                0, (), good[:2], good + (0,), list(good), (1,) + good[1:], (-1,) + good[1:], (True,) + good[1:],
                (MOST + 1,) + good[1:], (None,) + good[1:], (4, None, (1,)), (4, ((1, (-2,)), (1, (0,))), (1,)),
                good[:2] + ((),), good[:2] + ((1, 2),), good[:2] + ([1],), good[:2] + ((4,),), good[:2] + ((-1,),),
                good[:2] + ((True,),), good[:2] + (None,), (0, ((0, ()), (1, (0,))), (0,)),
                (4, ((1, (-1,)), (1, (-2,))), (1, 1)), (4, ((1, (-1,)), (1, (-2,))), (1,))):
            self.refuses(BadPaper, {"word": "summary"}, need_summary, FIRST, value)
            self.refuses(BadPaper, {"word": "summary"}, summary_point, FIRST, value)
            self.refuses(BadPaper, {"word": "summary"}, summaries_merged, FIRST, value, None)
            self.refuses(BadPaper, {"word": "summary"}, summaries_merged, FIRST, value, good)
            self.refuses(BadPaper, {"word": "summary"}, summaries_merged, FIRST, good, value)
            for times in (1, None):
                self.refuses(BadPaper, {"word": "summary"}, summary_often, FIRST, value, times)
        for value in NO_INTEGERS + (-1, GREAT + 1):
            self.refuses(BadNumber, {"value": value}, summary_often, FIRST, good, value)
            self.refuses(BadNumber, {"value": value}, summary_often, FIRST, (MOST,) + good[1:], value)
        value = (MOST, ((1, (-1,)), (1, (-2,))), (MOST - 1, 0))
        self.assertIs(need_summary(FIRST, value), value)

    def test_errors_of_trees(self):
        row = ("row", (((0,), 1),))
        for word, (fault, stand) in SPOILT:
            self.refuses(BadReader, {"word": fault, "stand": stand}, tree_summary, word, None)
        for value in OTHERS + (
                0, (), ("row",), ("row", (), ()), ["row", ()], ("join",), ("join", [row]), ("join", None),
                ("join", (row, None)), ("join", (row, ())), ("join", row), ("join", (row,), 1), ("times", row),
                ("times", row, True), ("times", row, -1), ("times", row, GREAT + 1), ("times", row, None),
                ("times", None, 1), ("times", (), 1), ("other", ()), (None, ()), (b"row", ()), ("times", row, 1, 1),
                ("join", (("row", None), None)), ("times", ("row", ODD), "1")):
            self.refuses(BadPaper, {"word": "tree"}, tree_summary, FIRST, value)
        for value, place in NO_ROWS:
            great = ("times", ("times", row, GREAT), GREAT)
            for _ in range(6):
                great = ("times", great, GREAT)
            self.refuses(BadRow, {"place": place}, tree_summary, FIRST, ("row", value))
            self.refuses(BadRow, {"place": place}, tree_summary, FIRST, ("join", (great, ("times", ("row", value), 0))))
            self.refuses(BadRow, {"place": 3}, tree_summary, FIRST, (
                "join", (row, ("join", (("row", (((0,), 1),) * 3 + (((2,), 1),)), ("row", value))))))
        for value, place in (((((2,), 1),), 0), (None, None)):
            other = ("row", None if value is not None else (((3,), 1),))
            self.refuses(BadRow, {"place": place}, tree_summary, FIRST, ("join", (("row", value), other)))


if __name__ == "__main__":
    unittest.main()
