"""[26]: the writings of rows."""

import unittest

from pointingreads.errors import BadRow, TooGreat
from pointingreads.writings import all_writings_number, least_writing, weight
from tests.helpers import GREAT, Case, chance, chance_row, marks_of, words


def all_writings(marks, known):
    if marks not in known:
        found = [()] if not marks else []
        for many in range(1, len(marks) + 1):
            times = 1
            while marks[:many] * times == marks[:many * times] and many * times <= len(marks):
                found.extend(
                    ((marks[:many], times),) + rest for rest in all_writings(marks[many * times:], known))
                times += 1
        known[marks] = found
    return known[marks]


class WritingsTest(Case):
    def test_against_all_writings(self):
        known = {}
        for word in list(words(2, 7)) + [(0,) * 9, (0, 1, 2) * 3, (0, 0, 1) * 3, (1, 0, 1, 0, 1, 0, 1, 0)]:
            found = all_writings(word, known)
            row = tuple(((mark,), 1) for mark in word)
            best = min(found, key=lambda told: (sum(len(marks) for marks, _ in told), len(told), told))
            self.assertEqual(least_writing(row), best)
            self.assertEqual(all_writings_number(row), len(found))

    def test_whatever_the_writing(self):
        rng = chance(31)
        for _ in range(60):
            row = chance_row(rng, 2, 4, 3, 5)
            marks = marks_of(row)
            other = tuple((marks[at:at + 7], 1) for at in range(0, len(marks), 7))
            self.assertEqual(least_writing(row), least_writing(other))
            self.assertEqual(all_writings_number(row), all_writings_number(other))
            self.assertEqual(marks_of(least_writing(row)), marks)
            self.assertLessEqual(weight(least_writing(row)), weight(row))

    def test_weight(self):
        self.assertEqual(weight(()), 0)
        self.assertEqual(weight((((0, 1), GREAT), ((2,), 3))), 3)
        self.assertEqual(weight((((0,) * 60, GREAT),) * 60), 3600)

    def test_edges(self):
        self.assertEqual(least_writing(()), ())
        self.assertEqual(all_writings_number(()), 1)
        self.assertEqual(least_writing((((0,), 300),)), (((0,), 300),))
        # no block has more than 60 marks
        marks = [0]
        while len(marks) < 61:
            marks = [mark for old in marks for mark in ((0, 1, 2), (0, 2), (1,))[old]]
        self.assertEqual(all_writings_number(((tuple(marks[:60]), 1),)), 2 ** 59)
        self.assertEqual(all_writings_number(((tuple(marks[:60]), 1), ((marks[60],), 1))), 2 ** 60 - 1)
        word = (0,) * 60 + (1,)
        self.assertEqual(least_writing((((0,), 60), ((1,), 1)) * 2), (((0,), 60), ((1,), 1)) * 2)
        self.assertEqual(len(word), 61)

    def test_many_blocks(self):
        # words in which each mark pays best by itself twice: 00 11 00 11 .. with unlike neighbours
        rng = chance(32)
        marks = []
        while len(marks) < 140:
            marks.append(rng.choice([mark for mark in range(4) if marks[-1:] != [mark]]))
        doubled = tuple(mark for mark in marks for _ in range(2))
        row = tuple((doubled[at:at + 60], 1) for at in range(0, 280, 60))
        self.refuses(TooGreat, {"most": 60}, least_writing, row)
        part = doubled[:118]
        row = tuple((part[at:at + 60], 1) for at in range(0, 118, 60))
        told = least_writing(row)
        self.assertLessEqual(len(told), 60)
        self.assertEqual(marks_of(told), part)

    def test_sixty_blocks_and_one_more(self):
        # no square of a word and no other repeat pays but the double marks
        marks = [0]
        while len(marks) < 61:
            marks = [mark for old in marks for mark in ((0, 1, 2), (0, 2), (1,))[old]]
        marks = marks[:61]
        for many in (59, 60):
            row = tuple(((mark,), 2) for mark in marks[:many])
            self.assertEqual(least_writing(row), row)
        word = tuple(mark for mark in marks for _ in range(2))
        row = tuple((word[at:at + 60], 1) for at in range(0, 122, 60))
        self.refuses(TooGreat, {"most": 60}, least_writing, row)

    def test_errors(self):
        long_row = (((0,), 300), ((1,), 1))
        for function in (least_writing, all_writings_number):
            self.refuses(TooGreat, {"most": 300}, function, long_row)
            self.refuses(TooGreat, {"most": 300}, function, (((0,), GREAT),) * 60)
            self.refuses(BadRow, {"place": 2}, function, long_row + (None,))
        self.refuses(BadRow, {"place": None}, weight, [])
        self.refuses(BadRow, {"place": 0}, weight, ((0, 1),))


if __name__ == "__main__":
    unittest.main()
