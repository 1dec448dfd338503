"""[62], [16]: changes of rows."""

import unittest

from pointingreads.changes import KINDS, changed, need_change, place_ahead, place_behind, taking_back
from pointingreads.errors import BadChange, BadPlace, BadRow, TooGreat
from pointingreads.rows import length_of, window
from tests.helpers import (
    GREAT, NO_INTEGERS, ODD, OTHERS, Case, all_changes, chance, chance_row, marks_of, slow_changed, split_row)

NO_ROWS = ((None, None), ((((0,), 1),) * 61, None), ((((0,), 1), ((4,), 1)), 1), ((((0,), True),), 0))


class ChangesTest(Case):
    def test_against_slow(self):
        rng = chance(451)
        for _ in range(300):
            row = chance_row(rng, 4, 3, 3, 3)
            word = marks_of(row)
            for kind in KINDS:
                for change in all_changes(kind, len(word), 4):
                    self.assertIs(need_change(row, change), change)
                    entries, _ = slow_changed(word, change)
                    behind = changed(row, change)
                    self.assertEqual(marks_of(behind), tuple(mark for _, mark in entries))
                    back = taking_back(row, change)
                    self.assertEqual(marks_of(changed(behind, back)), word)
                    names = [name for name, _ in entries]
                    for place in range(len(word)):
                        there = names.index(place) if place in names else None
                        self.assertEqual(place_behind(row, change, place), there)
                    for place, name in enumerate(names):
                        self.assertEqual(place_ahead(row, change, place), None if name == "new" else name)

    def test_how_it_is_written(self):
        row = (((0, 1), 4), ((2,), 1))
        self.assertEqual(changed(row, ("lost", 3)), (((0, 1), 1), ((0,), 1), ((0, 1), 2), ((2,), 1)))
        self.assertEqual(changed(row, ("lost", 0)), (((1,), 1), ((0, 1), 3), ((2,), 1)))
        self.assertEqual(changed(row, ("lost", 8)), (((0, 1), 4),))
        self.assertEqual(changed(row, ("put", 0, 3)), (((3,), 1),) + row)
        self.assertEqual(changed(row, ("put", 9, 3)), row + (((3,), 1),))
        self.assertEqual(changed(row, ("put", 2, 0)), (((0, 1), 1), ((0,), 1), ((0, 1), 3), ((2,), 1)))
        self.assertEqual(changed(row, ("turned", 7)), (((0, 1), 3), ((0,), 1), ((2, 1), 1)))
        self.assertEqual(changed(row, ("turned", 0)), (((1, 0), 1), ((0, 1), 3), ((2,), 1)))
        self.assertEqual(changed(row, ("marked", 8, 2)), row)
        self.assertEqual(changed(row, ("marked", 1, 1)), (((0,), 1), ((1,), 1), ((0, 1), 3), ((2,), 1)))
        self.assertEqual(changed((), ("put", 0, 1)), (((1,), 1),))
        self.assertEqual(changed((((1,), 1),), ("lost", 0)), ())
        self.assertEqual(changed((((1, 1), 1),), ("turned", 0)), (((1, 1), 1),))

    def test_great_rows(self):
        row = (((0, 1), GREAT), ((2, 3, 3), GREAT))
        place = 2 * GREAT
        self.assertEqual(changed(row, ("turned", place - 1)), (
            ((0, 1), GREAT - 1), ((0,), 1), ((2, 1), 1), ((3, 3), 1), ((2, 3, 3), GREAT - 1)))
        self.assertEqual(taking_back(row, ("lost", 5 * GREAT - 1)), ("put", 5 * GREAT - 1, 3))
        self.assertEqual(taking_back(row, ("marked", place, 0)), ("marked", place, 2))
        self.assertEqual(place_behind(row, ("put", 0, 0), 5 * GREAT - 1), 5 * GREAT)
        self.assertEqual(place_ahead(row, ("put", 0, 0), 5 * GREAT), 5 * GREAT - 1)
        self.assertEqual(place_ahead(row, ("lost", 3), 5 * GREAT - 2), 5 * GREAT - 1)
        self.refuses(BadPlace, {"place": 5 * GREAT - 1}, place_ahead, row, ("lost", 3), 5 * GREAT - 1)
        self.refuses(BadChange, {"word": "place"}, need_change, row, ("lost", 5 * GREAT))
        self.assertEqual(need_change(row, ("put", 5 * GREAT, 0)), ("put", 5 * GREAT, 0))
        rng = chance(452)
        for _ in range(60):
            row = chance_row(rng, 4, 4, 4, GREAT) + (((1, 0, 2), 3),)
            size = length_of(row)
            at = rng.randrange(size - 1)
            for change in (("lost", at), ("put", at, 3), ("turned", at), ("marked", at, 0)):
                one, two = changed(row, change), changed(split_row(rng, row), change)
                self.assertEqual(length_of(one), length_of(two))
                begin = max(0, at - 20)
                many = min(40, length_of(one) - begin)
                self.assertEqual(window(one, begin, many), window(two, begin, many))

    def test_sixty_blocks(self):
        row = (((0, 1), 3),) * 60
        self.refuses(TooGreat, {"most": 60}, changed, row, ("lost", 2))
        self.refuses(TooGreat, {"most": 60}, changed, row, ("put", 0, 1))
        self.refuses(TooGreat, {"most": 60}, changed, row[:58], ("marked", 9, 1))
        self.assertEqual(len(changed(row[:57], ("marked", 9, 1))), 60)
        self.assertEqual(len(changed(row[:59], ("put", 0, 1))), 60)
        self.assertEqual(len(changed(row[:58] + (((0,), 1),) * 2, ("lost", 348))), 59)
        # what does not write the row has no limit
        self.assertEqual(place_behind(row, ("put", 0, 1), 359), 360)
        self.assertEqual(place_ahead(row, ("put", 0, 1), 360), 359)
        self.assertEqual(taking_back(row, ("lost", 2)), ("put", 2, 0))
        self.assertEqual(need_change(row, ("put", 360, 0)), ("put", 360, 0))

    def test_errors(self):
        row = (((0, 1), 2),)
        for function, rest in (
                (need_change, ()), (changed, ()), (place_behind, (0,)), (place_ahead, (0,)), (taking_back, ())):
            for value, place in NO_ROWS:
                for change in (("lost", 0), None):
                    self.refuses(BadRow, {"place": place}, function, value, change, *rest)
            for change in OTHERS + (
                    0, (), ("lost",), ("lost", 0, 0), ("put", 0), ("put", 0, 0, 0), ("turned",), ("turned", 0, 0),
                    ("marked", 0), ["lost", 0], ("other", 0), (None, 0), (b"lost", 0), ("lost", None), ("lost", True),
                    ("lost", "0"), ("put", False, 0), ("put", 0, True), ("put", 0, 4), ("put", 0, -1), ("put", 0, None),
                    ("marked", 0, 4), ("marked", True, 0), ("put", 9, 4), ("marked", 9, ODD), ("lost", (0,))):
                self.refuses(BadChange, {"word": "form"}, function, row, change, *rest)
            for change in (
                    ("lost", -1), ("lost", 4), ("put", -1, 0), ("put", 5, 3), ("turned", -1), ("turned", 3),
                    ("marked", -1, 0), ("marked", 4, 0), ("lost", 10 ** 900)):
                self.refuses(BadChange, {"word": "place"}, function, row, change, *rest)
            for change in (("lost", 0), ("turned", 0), ("marked", 0, 0), ("turned", -1), ("put", 1, 0)):
                self.refuses(BadChange, {"word": "place"}, function, (), change, *rest)
            self.refuses(BadChange, {"word": "place"}, function, (((0,), 1),), ("turned", 0), *rest)
        for place in NO_INTEGERS + (-1, 4):
            for change in (("lost", 0), ("put", 0, 0)):
                self.refuses(BadPlace, {"place": place}, place_behind, row, change, place)
        for change, size in ((("lost", 0), 3), (("put", 0, 0), 5), (("turned", 0), 4), (("marked", 0, 0), 4)):
            for place in NO_INTEGERS + (-1, size):
                self.refuses(BadPlace, {"place": place}, place_ahead, row, change, place)


if __name__ == "__main__":
    unittest.main()
