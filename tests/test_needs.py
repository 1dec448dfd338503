"""[50], [51]: papers on hands and on stands."""

import unittest

from pointingreads.errors import TooGreat
from pointingreads.least import hands_needed, least_reader, stands_needed
from pointingreads.named import NAMES, reader_named
from pointingreads.needs import hands_paper, is_hands_paper, is_stands_paper, stands_paper
from tests.helpers import (
    FIRST, LAST, ODD, OTHERS, Case, chance, chance_reader, chance_word, holding_reader, mixed, slow_point)


def sign(reader, ahead, word):
    """Whether and where a word points behind another one."""
    place = slow_point(reader, ahead + word)
    if place is None:
        return None
    return ("old", place) if place < len(ahead) else ("new", place - len(ahead))


def is_old(told):
    return told is not None and told[0] == "old"


def slow_hands(reader, paper):
    signs = [sign(reader, paper[0], word) for word in paper[1]]
    return all(is_old(told) for told in signs) and len(set(signs)) == len(signs)


def slow_reason(reader, ahead, other, reason):
    signs = [sign(reader, ahead, word) for word in reason[1:]]
    others = [sign(reader, other, word) for word in reason[1:]]
    if reason[0] == "one":
        return any(
            not is_old(one) and two != one for one, two in ((signs[0], others[0]), (others[0], signs[0])))
    if not all(is_old(told) for told in signs + others):
        return False
    return any(
        one[0] == one[1] and two[0] != two[1] for one, two in ((signs, others), (others, signs)))


def slow_stands(reader, paper):
    pairs = [(one, two) for at, one in enumerate(paper[0]) for two in paper[0][at + 1:]]
    return len(pairs) == len(paper[1]) and all(
        slow_reason(reader, one, two, reason) for (one, two), reason in zip(pairs, paper[1]))


def chain(many, sorts=1):
    """A reader that points at the entry with this number, and has two stands more."""
    steps = tuple(((stand + 1, ()),) * sorts for stand in range(many - 1))
    steps += (((many, (-1,)),) * sorts, ((many, (0,)),) * sorts)
    return (sorts, (0,) * many + (1,), steps, (-1,) * many + (0,))


class NeedsTest(Case):
    def test_told_papers(self):
        rng = chance(361)
        kinds = set()
        for _ in range(250):
            make = rng.choice((chance_reader, holding_reader))
            reader = make(rng, rng.randint(1, 4), rng.randint(1, 7), rng.randint(1, 4))
            paper = hands_paper(reader)
            self.assertEqual(len(paper[1]), hands_needed(reader))
            self.assertIs(slow_hands(reader, paper), True)
            self.assertIs(is_hands_paper(reader, paper), True)
            self.assertIs(is_hands_paper(mixed(rng, reader), paper), True)
            paper = stands_paper(reader)
            self.assertEqual(len(paper[0]), stands_needed(reader))
            self.assertIs(slow_stands(reader, paper), True)
            self.assertIs(is_stands_paper(reader, paper), True)
            self.assertIs(is_stands_paper(least_reader(reader), paper), True)
            kinds |= {reason[0] for reason in paper[1]}
        self.assertEqual(kinds, {"one", "two"})

    def test_chance_papers(self):
        rng = chance(362)
        right = wrong = 0
        for _ in range(250):
            make = rng.choice((chance_reader, holding_reader))
            sorts = rng.randint(1, 3)
            reader = make(rng, sorts, rng.randint(2, 6), rng.randint(1, 4))
            told, reasons = stands_paper(reader)
            for _ in range(4):
                paper = (chance_word(rng, sorts, 5), tuple(chance_word(rng, sorts, 4) for _ in range(rng.randint(0, 2))))
                self.assertIs(is_hands_paper(reader, paper), slow_hands(reader, paper))
                ahead, spoilt = list(told), list(reasons)
                if spoilt:
                    spoilt[rng.randrange(len(spoilt))] = rng.choice((
                        ("one", chance_word(rng, sorts, 3)),
                        ("two", chance_word(rng, sorts, 3), chance_word(rng, sorts, 3))))
                ahead[rng.randrange(len(ahead))] = chance_word(rng, sorts, 6)
                paper = (tuple(ahead), tuple(spoilt))
                found = is_stands_paper(reader, paper)
                self.assertIs(found, slow_stands(reader, paper))
                right += found
                wrong += not found
        self.assertGreater(right, 100)
        self.assertGreater(wrong, 100)

    def test_reasons(self):
        before = reader_named("next to last", 2)
        self.assertEqual(hands_paper(before), ((0, 0), ((), (0,))))
        for reason, right in (
                (("one", ()), True), (("one", (0,)), True), (("one", (0, 0)), False), (("two", (), (0,)), False)):
            self.assertIs(is_stands_paper(before, (((0,), (0, 0)), (reason,))), reason == ("one", ()))
            self.assertIs(is_stands_paper(before, (((), (0, 0)), (reason,))), right)
            self.assertIs(slow_stands(before, (((), (0, 0)), (reason,))), right)
        # behind the one both words point at the first entry, behind the other one at unlike ones
        mixed_up = (1, (0, 1, 2, 2), (((1, (-1,)),), ((2, (0, -1)),), ((3, (0, 1)),), ((3, (1, 0)),)), (-1, -1, 0, 0))
        self.assertIs(slow_stands(mixed_up, (((0, 0), (0, 0, 0)), (("two", (), (0,)),))), True)
        self.assertIs(is_stands_paper(mixed_up, (((0, 0), (0, 0, 0)), (("two", (), (0,)),))), True)
        self.assertIs(is_stands_paper(mixed_up, (((0, 0, 0), (0, 0)), (("two", (0,), ()),))), True)
        self.assertIs(is_stands_paper(mixed_up, (((0, 0), (0, 0)), (("two", (), (0,)),))), False)
        self.assertIs(is_stands_paper(mixed_up, (((0, 0), (0, 0, 0)), (("two", (0,), (0,)),))), False)

    def test_stands_that_part_by_what_is_turned_alone(self):
        # two stands alike but for what the mark 1 does with the hands; it is seen two marks later
        same, turned = (0, 1), (1, 0)
        reader = (2, (0, 1, 2, 2, 2, 2), (
            ((1, (-1,)), (1, (-1,))), ((2, (0, -1)), (3, (0, -1))), ((4, same), (4, same)), ((4, same), (4, turned)),
            ((5, same), (5, turned)), ((5, same), (5, same))), (-1, -1, -1, -1, -1, 0))
        self.assertEqual(stands_needed(reader), 6)
        paper = stands_paper(reader)
        self.assertEqual(len(paper[0]), 6)
        self.assertIs(slow_stands(reader, paper), True)
        self.assertIs(is_stands_paper(reader, paper), True)

    def test_named_readers(self):
        for name in NAMES:
            for sorts in (1, 3):
                reader = reader_named(name, sorts)
                paper = stands_paper(reader)
                self.assertEqual(len(paper[0]), stands_needed(reader))
                self.assertIs(slow_stands(reader, paper), True)
                self.assertIs(slow_hands(reader, hands_paper(reader)), True)

    def test_papers_on_few(self):
        for reader in (FIRST, LAST):
            for paper in (((), ()), (((),), ()), (((0, 1, 0),), ())):
                self.assertIs(is_stands_paper(reader, paper), True)
                self.assertIs(is_hands_paper(reader, (paper[0][0] if paper[0] else (), ())), True)

    def test_forty_and_forty_one_stands(self):
        paper = stands_paper(chain(39))
        self.assertEqual(len(paper[0]), 40)
        self.assertIs(is_stands_paper(chain(39), paper), True)
        self.refuses(TooGreat, {"most": 40}, stands_paper, chain(40))
        reader = chain(40)
        ahead = tuple((0,) * many for many in range(41))
        reasons = tuple(("one", (0,) * (39 - one)) for one in range(41) for _ in range(one + 1, 41))
        self.assertIs(slow_stands(reader, (ahead, reasons)), True)
        self.assertIs(is_stands_paper(reader, (ahead, reasons)), False)
        fewer = tuple(("one", (0,) * (39 - one)) for one in range(40) for _ in range(one + 1, 40))
        self.assertIs(is_stands_paper(reader, (ahead[:40], fewer)), True)

    def test_the_longest_words(self):
        word = (1,) * 20000
        self.assertIs(is_hands_paper(LAST, (word, ((),))), True)
        self.assertIs(is_hands_paper(LAST, (word + (1,), ((),))), False)
        self.assertIs(is_hands_paper(FIRST, ((0,), (word,))), True)
        self.assertIs(is_hands_paper(FIRST, ((0,), (word + (1,),))), False)
        self.assertIs(is_stands_paper(FIRST, (((), (0,)), (("one", word),))), True)
        self.assertIs(is_stands_paper(FIRST, (((), (0,)), (("one", word + (1,)),))), False)
        self.assertIs(is_stands_paper(FIRST, (((), word + (0,)), (("one", ()),))), False)

    def test_any_value(self):
        for value in OTHERS + (
                0, (), ((),), ((), (), ()), [(), ()], ((), []), ([], ()), (None, ()), ((), None), ((2,), ()),
                ((True,), ()), ((0,), (None,)), ((0,), ([],)), ((0,), ((2,),)), ((0,), ((False,),)),
                ((0,), ((), ())), ((0,), ((), (1,))), ((), ((),)), ((1,), ((),)), ((0,), ((), ODD))):
            self.assertIs(is_hands_paper(FIRST, value), False)
        self.assertIs(is_hands_paper(FIRST, ((0,), ((),))), True)
        good = (((), (0,)), (("one", ()),))
        self.assertIs(is_stands_paper(FIRST, good), True)
        for value in OTHERS + (
                0, (), good[:1], good + ((),), list(good), (list(good[0]), good[1]), (good[0], list(good[1])),
                (good[0], ()), (good[0], good[1] * 2), (((), (2,)), good[1]), (((), (True,)), good[1]),
                (((), [0]), good[1]), ((None, (0,)), good[1]), (good[0], (["one", ()],)), (good[0], (("one",),)),
                (good[0], (("one", (), ()),)), (good[0], (("two", ()),)), (good[0], (("two", (), ()),)),
                (good[0], (("other", ()),)), (good[0], ((None, ()),)), (good[0], (("one", (2,)),)),
                (good[0], (("one", [0]),)), (good[0], (("one", (False,)),)), (good[0], (None,)),
                (((0,), (0,)), good[1]), (None, None), (((),), (("one", ()),))):
            self.assertIs(is_stands_paper(FIRST, value), False)
        self.assertIs(is_stands_paper(FIRST, (good[0], (("one", (0,)),))), True)

    def test_errors(self):
        self.refuses_readers(hands_paper)
        self.refuses_readers(stands_paper)
        self.refuses_readers(is_hands_paper, ((), ()))
        self.refuses_readers(is_stands_paper, ((), ()))


if __name__ == "__main__":
    unittest.main()
