"""[63], [64]: outcomes of changes, and outlooks."""

import unittest

from pointingreads.changes import KINDS
from pointingreads.errors import BadChange, BadName
from pointingreads.named import NAMES, reader_named
from pointingreads.outcomes import outcome
from pointingreads.outlooks import least_outcome, outlook
from pointingreads.ranked import ranking_told
from tests.helpers import (
    FIRST, GREAT, LAST, ODD, OTHERS, Case, all_changes, as_row, chance, chance_reader, chance_row, holding_reader,
    keen_reader, marks_of, mixed, slow_outcome, words)


def chance_any(rng, sorts):
    return rng.choice((chance_reader, holding_reader, keen_reader))(rng, sorts, rng.randint(2, 4), rng.randint(1, 3))


def late(many):
    """A reader of one mark that points at the last entry, in rows with exactly so many entries at the first one."""
    held = (0, 1) + (2,) * (many - 1) + (1,)
    steps = [((1, (-1,)),)]
    for stand in range(1, many + 1):
        if stand == many:
            steps.append(((stand + 1, (-1,)),))
        else:
            steps.append(((stand + 1, (0, -1)),))
    steps.append(((many + 1, (-1,)),))
    points = (-1, 0) + (1,) * (many - 2) + (0, 0)
    return (1, held, tuple(steps), points)


class OutcomesTest(Case):
    def test_against_slow(self):
        rng = chance(461)
        for _ in range(250):
            sorts = rng.randint(1, 4)
            reader = chance_any(rng, sorts)
            row = chance_row(rng, sorts, 3, 3, 3)
            word = marks_of(row)
            for kind in KINDS:
                for change in all_changes(kind, len(word), sorts):
                    self.assertEqual(outcome(reader, row, change), slow_outcome(reader, word, change))

    def test_the_document(self):
        last = reader_named("last", 2)
        self.assertEqual(outcome(last, (((0, 1), 1),), ("turned", 0)), ("right", "left"))
        self.assertEqual(outcome(last, (((0, 0), 1),), ("turned", 0)), ("right", "left"))
        self.assertEqual(outcome(last, (((0, 1), GREAT),), ("lost", 2 * GREAT - 1)), ("it", "other"))
        self.assertEqual(outcome(last, (((0, 1), GREAT),), ("lost", 2 * GREAT - 2)), ("other", "same"))
        self.assertEqual(outcome(last, (((0, 1), GREAT),), ("put", 2 * GREAT, 0)), ("other", "it"))
        self.assertEqual(outcome(last, (((0, 1), GREAT),), ("marked", 2 * GREAT - 1, 1)), ("it", "it"))
        self.assertEqual(outcome(FIRST, (((1,), GREAT),), ("marked", GREAT // 2, 0)), ("none", "it"))
        self.assertEqual(outcome(FIRST, (((0,), 2),), ("marked", 0, 1)), ("it", "other"))
        self.assertEqual(outcome(FIRST, (((0,), 1),), ("lost", 0)), ("it", "none"))
        self.assertEqual(outcome(FIRST, (((0,), 2),), ("turned", 0)), ("left", "right"))
        self.assertEqual(outcome(FIRST, (((1, 0), 1),), ("turned", 0)), ("right", "right"))
        self.assertEqual(outcome(FIRST, (), ("put", 0, 1)), ("none", "none"))

    def test_rows_of_sixty_blocks(self):
        row = (((0, 1), GREAT),) * 60
        self.assertEqual(outcome(LAST, row, ("lost", 7)), ("other", "same"))
        self.assertEqual(outcome(FIRST, row, ("put", 0, 0)), ("other", "it"))
        self.assertEqual(outcome(FIRST, row, ("turned", 0)), ("left", "left"))
        self.assertEqual(outcome(reader_named("second", 2), row, ("turned", 0)), ("right", "left"))
        self.assertEqual(outcome(reader_named("second", 2), row, ("marked", 119 * GREAT, 1)), ("other", "same"))

    def test_outlooks_against_slow(self):
        rng = chance(462)
        shown = set()
        for _ in range(90):
            sorts = rng.randint(1, 3)
            reader = chance_any(rng, sorts)
            deep = {1: 11, 2: 6, 3: 4}[sorts]
            for kind in KINDS:
                first = {}
                for word in words(sorts, deep):
                    for change in all_changes(kind, len(word), sorts):
                        first.setdefault(slow_outcome(reader, word, change), (word, change))
                found = outlook(reader, kind)
                shown.add((kind, found))
                self.assertEqual(list(found), sorted(set(found)))
                self.assertEqual(set(first) - set(found), set())
                self.assertEqual(outlook(mixed(rng, reader), kind), found)
                for pair in found:
                    told = least_outcome(reader, kind, pair)
                    if pair in first:
                        self.assertEqual(told, first[pair])
                    else:
                        self.assertGreater(len(told[0]), deep)
                        self.assertEqual(slow_outcome(reader, told[0], told[1]), pair)
                for pair in (("none", "none"), ("other", "other"), ("other", "same"), ("it", "other")):
                    self.assertEqual(least_outcome(reader, kind, pair) is None, pair not in found)
        self.assertGreater(len(shown), 40)

    def test_named_readers(self):
        last = reader_named("last", 2)
        self.assertEqual(outlook(last, "lost"), (("it", "none"), ("it", "other"), ("other", "same")))
        self.assertEqual(outlook(last, "put"), (("none", "it"), ("other", "it"), ("other", "same")))
        self.assertEqual(outlook(last, "turned"), (("other", "same"), ("right", "left")))
        self.assertEqual(outlook(last, "marked"), (("it", "it"), ("other", "same")))
        for kind in KINDS:
            self.assertEqual(outlook(reader_named("none", 2), kind), (("none", "none"),))
        self.assertEqual(least_outcome(last, "marked", ("it", "it")), ((0,), ("marked", 0, 0)))
        self.assertEqual(least_outcome(last, "lost", ("other", "same")), ((0, 0), ("lost", 0)))
        self.assertEqual(least_outcome(last, "put", ("none", "it")), ((), ("put", 0, 0)))
        self.assertEqual(least_outcome(last, "turned", ("other", "same")), ((0, 0, 0), ("turned", 0)))
        self.assertEqual(least_outcome(FIRST, "put", ("other", "it")), ((0,), ("put", 0, 0)))
        self.assertEqual(least_outcome(FIRST, "marked", ("it", "none")), ((0,), ("marked", 0, 1)))
        self.assertIsNone(least_outcome(last, "lost", ("none", "none")))
        # a steady reader is one of a ranking; no loss of another entry changes its point
        for name in NAMES:
            reader = reader_named(name, 2)
            steady = set(outlook(reader, "lost")) <= {
                ("it", "none"), ("it", "other"), ("other", "same"), ("none", "none")}
            self.assertIs(ranking_told(reader) is not None, steady, name)

    def test_outcomes_that_come_late(self):
        for many in (5, 60):
            reader = late(many)
            self.assertEqual(least_outcome(reader, "put", ("other", "same")), ((0,), ("put", 0, 0)))
            word, change = least_outcome(reader, "lost", ("other", "other"))
            self.assertEqual(len(word), many)
            self.assertEqual(slow_outcome(reader, word, change), ("other", "other"))
            self.assertEqual(least_outcome(reader, "turned", ("left", "right")), ((0,) * many, ("turned", 0)))

    def test_errors(self):
        good = ("lost", 0)
        self.refuses_fit(outcome, good)
        row = (((0, 1), 2),)
        for change in OTHERS + (
                0, (), ("lost",), ("lost", True), ("put", 0, 4), ("put", 0, None), ("put", 9, ODD), ("other", 0)):
            self.refuses(BadChange, {"word": "form"}, outcome, FIRST, row, change)
        for change in (("lost", 4), ("put", 5, 3), ("turned", 3), ("marked", 4, 3), ("lost", -1)):
            self.refuses(BadChange, {"word": "place"}, outcome, FIRST, row, change)
        for change in (("put", 4, 2), ("marked", 3, 3), ("put", 0, 3)):
            self.refuses(BadChange, {"word": "mark"}, outcome, FIRST, row, change)
        self.refuses_readers(outlook, "lost")
        self.refuses_readers(least_outcome, "lost", ("none", "none"))
        for kind in OTHERS + (0, (), ("lost",), "Lost", b"lost", "lost "):
            self.refuses(BadName, {"name": kind}, outlook, FIRST, kind)
            self.refuses(BadName, {"name": kind}, least_outcome, FIRST, kind, ("none", "none"))
            self.refuses(BadName, {"name": kind}, least_outcome, FIRST, kind, None)
        for pair in OTHERS + (
                0, (), ("none",), ["none", "none"], ("none", "none", "none"), ("none", None), (None, None), ("it", ODD),
                ("right", "left"), ("same", "other"), ("none", "same"), (b"none", "none")):
            self.assertIsNone(least_outcome(FIRST, "lost", pair))
        self.assertEqual(least_outcome(FIRST, "lost", ("none", "none")), ((1,), ("lost", 0)))
        self.assertEqual(outcome(FIRST, as_row((1,)), ("lost", 0)), ("none", "none"))


if __name__ == "__main__":
    unittest.main()
