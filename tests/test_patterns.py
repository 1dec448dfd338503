"""[41], [15]: patterns of two readers."""

import unittest

from pointingreads.errors import BadMark, BadPaper, TooGreat
from pointingreads.named import reader_named
from pointingreads.patterns import next_pattern, pattern_of, pattern_row, patterns
from tests.helpers import (
    FIRST, GREAT, LAST, NO_INTEGERS, OTHERS, Case, as_row, chance, chance_pair, chance_row,
    chance_word, marks_of, slow_pattern, words)

DEEP = {1: 14, 2: 7, 3: 5, 4: 4}


def some_pattern(rng, reader, other):
    """Any pattern of the two, whether it comes or not."""
    stand, other_stand = rng.randrange(len(reader[1])), rng.randrange(len(other[1]))
    hands = rng.sample(range(reader[1][stand]), reader[1][stand])
    other_hands = rng.sample(range(other[1][other_stand]), other[1][other_stand])
    same = rng.randint(0, min(len(hands), len(other_hands)))
    holds = list(zip(hands[:same], other_hands))
    holds += [(hand, -1) for hand in hands[same:]] + [(-1, hand) for hand in other_hands[same:]]
    rng.shuffle(holds)
    return (stand, other_stand, tuple(holds))


def turning(sorts, stands, wait=0):
    """A reader that waits so many entries and takes the next one, then goes round so many stands."""
    steps = [((stand + 1, ()),) * sorts for stand in range(wait)] + [((wait + 1, (-1,)),) * sorts]
    for stand in range(stands):
        steps.append(((wait + 1 + (stand + 1) % stands, (0,)),) * sorts)
    return (sorts, (0,) * (wait + 1) + (1,) * stands, tuple(steps), (-1,) * (wait + 1) + (0,) * stands)


class PatternsTest(Case):
    def test_against_slow(self):
        rng = chance(311)
        for _ in range(150):
            reader, other = chance_pair(rng, 4, 4, 3)
            first = {}
            for word in words(reader[0], DEEP[reader[0]]):
                first.setdefault(slow_pattern(reader, other, word), word)
            found = patterns(reader, other)
            self.assertEqual([one for one in found if one in first], list(first))
            self.assertEqual(len(set(found)), len(found))
            for one in found:
                word = pattern_row(reader, other, one)
                self.assertEqual(slow_pattern(reader, other, word), one)
                if one in first:
                    self.assertEqual(word, first[one])
                else:
                    self.assertGreater(len(word), DEEP[reader[0]])
                for mark in range(reader[0]):
                    behind = next_pattern(reader, other, one, mark)
                    self.assertEqual(behind, slow_pattern(reader, other, word + (mark,)))
                    self.assertIn(behind, found)
            for _ in range(5):
                one = some_pattern(rng, reader, other)
                self.assertEqual(pattern_row(reader, other, one) is not None, one in found)

    def test_of_rows(self):
        rng = chance(312)
        for _ in range(100):
            reader, other = chance_pair(rng, 3, 6, 4)
            row = chance_row(rng, reader[0], 4, 4, 9)
            self.assertEqual(pattern_of(reader, other, row), slow_pattern(reader, other, marks_of(row)))
        self.assertEqual(pattern_of(FIRST, LAST, ()), (0, 0, ()))
        self.assertEqual(pattern_of(FIRST, LAST, (((1,), GREAT), ((0, 0), 1))), (1, 1, ((0, -1), (-1, 0))))
        self.assertEqual(pattern_of(FIRST, LAST, (((1,), GREAT), ((0,), 1))), (1, 1, ((0, 0),)))
        self.assertEqual(patterns(FIRST, LAST), (
            (0, 0, ()), (1, 1, ((0, 0),)), (0, 1, ((-1, 0),)), (1, 1, ((0, -1), (-1, 0)))))

    def test_patterns_of_stands_that_no_row_leads_to(self):
        reader = (1, (0, 2), (((0, ()),), ((1, (1, -1)),)), (-1, 0))
        one = (1, 1, ((1, 1), (0, -1), (-1, 0)))
        self.assertEqual(next_pattern(reader, reader, one, 0), (1, 1, ((0, 0), (1, 1))))
        self.assertEqual(next_pattern(reader, reader, (1, 0, ((1, -1), (0, -1))), 0), (1, 0, ((0, -1), (1, -1))))
        self.assertIsNone(pattern_row(reader, reader, one))

    def test_two_thousand_and_more(self):
        self.assertEqual(len(patterns(turning(1, 199), turning(1, 10))), 1991)
        for sorts in (1, 2):
            other = turning(sorts, 54)
            self.assertEqual(len(patterns(turning(sorts, 37), other)), 1999)
            self.assertEqual(len(patterns(turning(sorts, 37, 1), other)), 2000)
            self.refuses(TooGreat, {"most": 2000}, patterns, turning(sorts, 37, 2), other)
            self.assertEqual(pattern_row(turning(sorts, 37, 2), other, (3, 3, ((-1, 0), (0, -1)))), (0,) * 3)
        self.refuses(TooGreat, {"most": 2000}, patterns, turning(1, 199), turning(1, 198))

    def test_rows_of_patterns_have_no_limit(self):
        rng = chance(313)
        for hands, stands in ((4, 5), (8, 20)):
            held = tuple(min(stand, hands) for stand in range(hands + stands))
            pair = []
            for _ in range(2):
                steps = []
                for stand in range(hands + stands):
                    row = []
                    for _ in range(2):
                        to = stand + 1 if stand < hands else rng.randrange(hands, hands + stands)
                        keep = list(range(held[stand])) + [-1]
                        if stand >= hands:
                            keep.remove(rng.choice(keep))
                        rng.shuffle(keep)
                        row.append((to, tuple(keep)))
                    steps.append(tuple(row))
                pair.append((2, held, tuple(steps), (-1,) + (0,) * (len(held) - 1)))
            self.refuses(TooGreat, {"most": 2000}, patterns, *pair)
            for _ in range(5):
                word = chance_word(rng, 2, 40)
                one = slow_pattern(pair[0], pair[1], word)
                found = pattern_row(pair[0], pair[1], one)
                self.assertEqual(slow_pattern(pair[0], pair[1], found), one)
                self.assertLessEqual((len(found), found), (len(word), word))
        late = turning(1, 199), turning(1, 197)
        self.assertEqual(len(pattern_row(late[0], late[1], (199, 197, ((0, 0),)))), 199 * 197)

    def test_errors(self):
        self.refuses_two(pattern_of, ())
        self.refuses_two(next_pattern, (0, 0, ()), 0)
        self.refuses_two(patterns)
        self.refuses_two(pattern_row, (0, 0, ()))
        self.refuses_rows(pattern_of, FIRST, LAST)
        good = (1, 1, ((0, -1), (-1, 0)))
        self.assertEqual(next_pattern(FIRST, LAST, good, 1), good)
        bad = OTHERS + (
            0, (), (0, 0), (0, 0, (), ()), (0, 0, []), (0, 0, None), (2, 1, ((-1, 0),)), (-1, 0, ()), (0, 2, ()),
            (True, 1, ((0, 0),)), (1, True, ((0, 0),)), (False, 0, ()), (1, 1, ()), (1, 1, ((0, -1),)),
            (1, 1, ((0, 0), (-1, -1))), (1, 1, ((0, 0), (0, -1))), (1, 1, ((0, -1), (-1, 0), (-1, 0))),
            (1, 1, ((0, 0, 0),)), (1, 1, ([0, 0],)), (1, 1, ((False, 0),)), (1, 1, ((0, False),)),
            (1, 1, ((1, 0),)), (1, 1, ((0, -2), (-1, 0))), (1, 1, ((None, 0),)), (0, 0, ((-1, -1),)),
            (1, 1, (0, 0)), (0, 1, ((0, 0),)), (1, 0, ((0, 0),)))
        for value in bad:
            for mark in (0, None):
                self.refuses(BadPaper, {"word": "pattern"}, next_pattern, FIRST, LAST, value, mark)
            self.refuses(BadPaper, {"word": "pattern"}, pattern_row, FIRST, LAST, value)
        for mark in NO_INTEGERS + (-1, 2):
            self.refuses(BadMark, {"mark": mark}, next_pattern, FIRST, LAST, good, mark)

    def test_parameter_names(self):
        reader, other = reader_named("new", 3), reader_named("next to last", 3)
        row = as_row((0, 2, 1))
        self.assertEqual(patterns(reader=reader, other=other), patterns(reader, other))
        self.assertEqual(pattern_of(other=other, row=row, reader=reader), pattern_of(reader, other, row))


if __name__ == "__main__":
    unittest.main()
