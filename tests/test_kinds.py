"""[57], [58]: kinds of rows, width, idle and forgetting rows."""

import unittest

from pointingreads.errors import BadNumber, TooGreat
from pointingreads.kinds import forgetting_word, idle_word, kind_of, kind_product, part_kinds, width
from pointingreads.least import hands_needed, least_reader
from pointingreads.named import reader_named
from pointingreads.surroundings import handed_on, stand_for
from tests.helpers import (
    FIRST, GREAT, LAST, NO_INTEGERS, Case, as_row, chance, chance_reader, chance_row, keen_reader, mixed, seen_point, slow_behaviour, words)

DEEP = {1: 14, 2: 7, 3: 5, 4: 4}


def forgets(reader, word, deep):
    """Whether a row is forgetting as far as short rows around it tell."""
    for behind in words(reader[0], deep):
        seen = {seen_point(reader, ahead, word, behind) for ahead in words(reader[0], deep)}
        if len(seen) > 1 or any(one is not None and one[0] == "ahead" for one in seen):
            return False
    return True


def spun(stands, wait):
    """A reader of one mark that waits, takes three entries, and turns its hands once a round."""
    held = (0,) * (wait + 1) + (1, 2) + (3,) * stands
    steps = [((stand + 1, ()),) for stand in range(wait)]
    for hands in (0, 1, 2):
        steps.append(((len(steps) + 1, tuple(range(hands)) + (-1,)),))
    for stand in range(stands):
        last = stand == stands - 1
        steps.append(((wait + 3 if last else len(steps) + 1, (1, 2, 0) if last else (0, 1, 2)),))
    return (1, held, tuple(steps), tuple(many - 1 if many < 3 else 0 for many in held))


class KindsTest(Case):
    def chances(self, seed, many, sorts=3):
        rng = chance(seed)
        for _ in range(many):
            reader = rng.choice((chance_reader, keen_reader))(rng, rng.randint(1, sorts), 4, 2)
            try:
                yield rng, reader, part_kinds(reader)
            except TooGreat as error:
                self.assertEqual(error.most, 300)

    def test_against_slow(self):
        numbers = set()
        for rng, reader, kinds in self.chances(421, 200):
            numbers.add(len(kinds))
            least = least_reader(reader)
            first = {}
            for word in words(reader[0], DEEP[reader[0]]):
                first.setdefault(slow_behaviour(least, word)[0], word)
            some = [word for word, _ in kinds if len(word) <= DEEP[reader[0]]]
            self.assertEqual(some, list(first.values()))
            self.assertEqual(kinds[0], ((), 0))
            self.assertEqual(part_kinds(mixed(rng, reader)), kinds)
            for number in rng.sample(range(len(kinds)), min(len(kinds), 12)):
                word, many = kinds[number]
                self.assertEqual(kind_of(reader, as_row(word)), number)
                self.assertEqual(many, len(handed_on(reader, as_row(word))))
            self.assertEqual(sorted([word for word, _ in kinds], key=lambda word: (len(word), word)),
                             [word for word, _ in kinds])
        self.assertGreater(len(numbers), 15)

    def test_kinds_are_what_stands_for_one_another(self):
        for rng, reader, kinds in self.chances(422, 60):
            for _ in range(10):
                row, other = [chance_row(rng, reader[0], 2, 3, 3) for _ in range(2)]
                alike = kind_of(reader, row) == kind_of(reader, other)
                self.assertIs(alike, stand_for(reader, row, other) is not None)
            row = chance_row(rng, reader[0], 60, 4, GREAT)
            word = kinds[kind_of(reader, row)][0]
            self.assertIsNotNone(stand_for(reader, row, as_row(word)))

    def test_products(self):
        for rng, reader, kinds in self.chances(423, 80):
            least = least_reader(reader)
            for _ in range(10):
                number, other = rng.randrange(len(kinds)), rng.randrange(len(kinds))
                word, other_word = kinds[number][0], kinds[other][0]
                kind, kept = kind_product(reader, number, other)
                self.assertEqual(kind, kind_of(reader, as_row(word + other_word)))
                ahead, behind = slow_behaviour(least, word)[1], slow_behaviour(least, other_word)[1]
                self.assertEqual(slow_behaviour(least, word + other_word)[1], tuple(
                    ahead[at] if side == 0 else len(word) + behind[at] for side, at in kept))
                self.assertEqual(len(kept), kinds[kind][1])

    def test_width_idle_and_forgetting(self):
        idle = forgetting = 0
        for _, reader, kinds in self.chances(424, 120):
            deep = {1: 8, 2: 3, 3: 2}[reader[0]]
            found = width(reader)
            self.assertEqual(found[0], max(many for _, many in kinds))
            self.assertEqual(found[1], [word for word, many in kinds if many == found[0]][0])
            self.assertGreaterEqual(found[0], hands_needed(reader))
            word = idle_word(reader)
            least = least_reader(reader)
            empty = slow_behaviour(least, ())[0]
            rests = [one for one in words(reader[0], DEEP[reader[0]], 1) if slow_behaviour(least, one)[0] == empty]
            idle += word is not None
            if rests or word is None:
                self.assertEqual(word, rests[0] if rests else None)
            else:
                self.assertEqual(kind_of(reader, as_row(word)), 0)
            word = forgetting_word(reader)
            forgetting += word is not None
            some = [one for one in words(reader[0], deep) if forgets(reader, one, deep)]
            if word is not None:
                self.assertIs(forgets(reader, word, deep), True)
                self.assertIn(word, [one for one, _ in kinds])
                self.assertTrue(len(word) > deep or some[0] == word or (len(some[0]), some[0]) < (len(word), word))
            if not some:
                self.assertTrue(word is None or len(word) > deep)
        self.assertGreater(idle, 20)
        self.assertGreater(forgetting, 20)

    def test_named_readers(self):
        self.assertEqual(part_kinds(FIRST), (((), 0), ((0,), 1), ((1,), 0))[:2])
        self.assertEqual(width(FIRST), (1, (0,)))
        self.assertEqual(idle_word(FIRST), (1,))
        self.assertIsNone(forgetting_word(FIRST))
        self.assertEqual(part_kinds(LAST), (((), 0), ((0,), 1)))
        self.assertEqual(forgetting_word(LAST), (0,))
        self.assertIsNone(idle_word(LAST))
        before = reader_named("next to last", 1)
        self.assertEqual(part_kinds(before), (((), 0), ((0,), 1), ((0, 0), 2)))
        self.assertEqual(width(before), (2, (0, 0)))
        self.assertEqual(forgetting_word(before), (0, 0))
        none = reader_named("none", 3)
        self.assertEqual(part_kinds(none), (((), 0),))
        self.assertEqual((width(none), idle_word(none), forgetting_word(none)), ((0, ()), (0,), ()))
        # the width may be greater than the number of hands
        self.assertEqual(width(reader_named("second", 1)), (2, (0, 0)))
        self.assertEqual(width(reader_named("third", 1)), (3, (0, 0, 0)))
        self.assertEqual(kind_product(before, 1, 1), (2, ((0, 0), (1, 0))))
        self.assertEqual(kind_product(before, 2, 1), (2, ((0, 1), (1, 0))))

    def test_three_hundred_and_more(self):
        # three rounds until all hands are back, and the beginnings
        self.assertEqual(len(part_kinds(spun(99, 0))), 300)
        self.assertEqual(len(part_kinds(spun(98, 1))), 298)
        great = spun(99, 1)
        for function in (part_kinds, width, idle_word, forgetting_word):
            self.refuses(TooGreat, {"most": 300}, function, great)
        self.refuses(TooGreat, {"most": 300}, kind_of, great, ())
        self.refuses(TooGreat, {"most": 300}, kind_product, great, 0, 0)
        self.refuses(TooGreat, {"most": 300}, kind_product, great, None, None)
        reader = spun(99, 0)
        self.assertEqual(kind_of(reader, (((0,), GREAT),)), 3 + (GREAT - 3) % 297)
        self.assertEqual(kind_product(reader, 299, 298)[0], 3 + (299 + 298 - 3) % 297)
        self.assertEqual(width(reader), (3, (0, 0, 0)))

    def test_errors(self):
        for function in (part_kinds, width, idle_word, forgetting_word):
            self.refuses_readers(function)
        self.refuses_fit(kind_of)
        self.refuses_readers(kind_product, 0, 0)
        for value in NO_INTEGERS + (-1, 2, 10 ** 900):
            self.refuses(BadNumber, {"value": value}, kind_product, LAST, value, 0)
            self.refuses(BadNumber, {"value": value}, kind_product, LAST, value, None)
            self.refuses(BadNumber, {"value": value}, kind_product, LAST, 0, value)
        self.assertEqual(kind_product(LAST, 1, 1), (1, ((1, 0),)))


if __name__ == "__main__":
    unittest.main()
