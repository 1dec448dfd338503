"""Words written as rows with few blocks: help for [46]."""

import unittest

from pointingreads.gaprows import packed, packed_often
from pointingreads.rows import is_row
from tests.helpers import Case, chance, chance_word, marks_of, words


class PackingTest(Case):
    def test_short_words(self):
        for word in words(2, 9):
            found = packed(word)
            self.assertIs(is_row(found), True)
            self.assertEqual(marks_of(found), word)
            self.assertLessEqual(len(found), 1)
            for times in (0, 1, 2, 7):
                row = packed_often(word, times) if word else ()
                self.assertEqual(marks_of(row), word * times)
                self.assertLessEqual(len(row), 1)

    def test_long_words(self):
        rng = chance(501)
        for _ in range(60):
            word = chance_word(rng, 2, 20) * rng.randint(1, 20) + chance_word(rng, 3, 100)
            found = packed(word)
            self.assertIs(is_row(found), True)
            self.assertEqual(marks_of(found), word)
            self.assertLessEqual(len(found), (len(word) + 59) // 60)
        self.assertEqual(packed((0, 1) * 900), (((0, 1), 900),))
        word = tuple(rng.randrange(4) for _ in range(3600))
        self.assertEqual(packed(word), tuple((word[at:at + 60], 1) for at in range(0, 3600, 60)))

    def test_rounds(self):
        word = (0,) * 60 + (1,)
        self.assertEqual(packed_often((0,) * 61, 5), (((0,), 305),))
        self.assertEqual(packed_often((0, 1) * 40, 10 ** 20), (((0, 1), 40 * 10 ** 20),))
        self.assertIsNone(packed_often(word, 2))
        self.assertEqual(packed_often(word, 0), ())
        self.assertEqual(marks_of(packed_often(word, 1)), word)
        self.assertIsNone(packed_often(word * 3, 2))
        self.assertEqual(packed_often(word[1:], 10 ** 20), ((word[1:], 10 ** 20),))


if __name__ == "__main__":
    unittest.main()
