"""[43], [13]: readers that are alike, and papers that show it."""

import unittest

from pointingreads.errors import BadPaper, TooGreat
from pointingreads.least import least_reader
from pointingreads.likes import are_alike, likeness_paper, need_likeness_paper, parting_row
from pointingreads.named import NAMES, reader_named
from pointingreads.patterns import patterns
from tests.helpers import FIRST, LAST, OTHERS, Case, chance, chance_pair, holding_reader, mixed, slow_point, words

# a reader that is alike to FIRST: it looks at the second entry apart from those behind
LONGER = (2, (0, 1, 1), (
    ((1, (-1,)), (0, ())), ((2, (0,)), (1, (0,))), ((1, (0,)), (2, (0,)))), (-1, 0, 0))


class LikesTest(Case):
    def test_against_slow(self):
        rng = chance(331)
        alike = 0
        for _ in range(400):
            reader, other = chance_pair(rng, 4, 5, 3)
            deep = {1: 12, 2: 7, 3: 4, 4: 3}[reader[0]]
            slow = [word for word in words(reader[0], deep) if slow_point(reader, word) != slow_point(other, word)]
            word = parting_row(reader, other)
            self.assertIs(are_alike(reader, other), word is None)
            self.assertEqual(least_reader(reader) == least_reader(other), word is None)
            if word is None or slow:
                self.assertEqual(word, slow[0] if slow else None)
            else:
                self.assertGreater(len(word), deep)
            paper = likeness_paper(reader, other)
            self.assertIs(need_likeness_paper(reader, other, paper), paper)
            if word is None:
                alike += 1
                self.assertEqual(paper[0], "alike")
                self.assertEqual(set(paper[1]), set(patterns(reader, other)))
                turned = ("alike", paper[1][::-1])
                self.assertIs(need_likeness_paper(reader, other, turned), turned)
            else:
                self.assertEqual(paper[0], "apart")
                self.assertNotEqual(slow_point(reader, paper[1]), slow_point(other, paper[1]))
        self.assertGreater(alike, 80)

    def test_named_readers(self):
        for sorts in (1, 2, 4):
            for name in NAMES:
                for other in NAMES:
                    one, two = reader_named(name, sorts), reader_named(other, sorts)
                    self.assertIs(are_alike(one, two), least_reader(one) == least_reader(two))
        self.assertEqual(parting_row(reader_named("first", 2), reader_named("last", 2)), (0, 0))
        self.assertEqual(parting_row(reader_named("last", 2), reader_named("new", 2)), (0, 0))
        self.assertEqual(parting_row(reader_named("first", 2), reader_named("same as first", 2)), (0, 0))
        self.assertEqual(parting_row(FIRST, LAST), (1,))
        self.assertIs(are_alike(FIRST, LONGER), True)
        self.assertIsNone(parting_row(FIRST, LONGER))

    def test_readers_that_part_late(self):
        # unlike at the end of a long chain alone
        for many in (3, 199):
            steps = tuple(((min(stand + 1, many), (-1,)), (min(stand + 1, many), (-1,)))
                          for stand in range(many + 1))
            chain = (2, (0,) + (1,) * many, steps, (-1,) + (0,) * many)
            other = chain[:3] + ((-1,) + (0,) * (many - 1) + (-1,),)
            self.assertEqual(parting_row(chain, other), (0,) * many)
            self.assertIs(are_alike(chain, other), False)
            self.assertEqual(likeness_paper(chain, other), ("apart", (0,) * many))

    def test_greater_than_two_thousand_patterns(self):
        def turning(stands):
            steps = (((1, (-1,)),),) + tuple(((stand % stands + 1, (0,)),) for stand in range(1, stands + 1))
            return (1, (0,) + (1,) * stands, steps, (-1,) + (0,) * stands)
        one, two = turning(40), turning(57)
        self.assertIs(are_alike(one, two), True)
        self.assertIsNone(parting_row(one, two))
        self.refuses(TooGreat, {"most": 2000}, likeness_paper, one, two)
        paper = likeness_paper(turning(37), turning(54))
        self.assertEqual(len(paper[1]), 1999)
        self.assertIs(need_likeness_paper(turning(37), turning(54), paper), paper)
        unlike = one[:3] + (one[3][:-1] + (-1,),)
        self.assertEqual(likeness_paper(unlike, two), ("apart", (0,) * 40))

    def test_the_longest_words(self):
        paper = ("apart", (0,) * 20000)
        two = (1, (0, 1), (((1, (-1,)),), ((1, (-1,)),)), (-1, 0))
        first = (1, (0, 1), (((1, (-1,)),), ((1, (0,)),)), (-1, 0))
        self.assertIs(need_likeness_paper(two, first, paper), paper)
        self.refuses(BadPaper, {"word": "form"}, need_likeness_paper, two, first, ("apart", (0,) * 20001))

    def test_spoilt_papers(self):
        rng = chance(332)
        told = 0
        for _ in range(60):
            reader = holding_reader(rng, rng.randint(1, 3), 4, 2)
            other = mixed(rng, reader)
            found = patterns(reader, other)
            if len(found) > 2:
                told += 1
                for missing in found[1:]:
                    rest = tuple(one for one in found if one != missing)
                    self.refuses(BadPaper, {"word": "step"}, need_likeness_paper, reader, other, ("alike", rest))
                self.refuses(
                    BadPaper, {"word": "form"}, need_likeness_paper, reader, other, ("alike", found[1:]))
                self.refuses(
                    BadPaper, {"word": "form"}, need_likeness_paper, reader, other, ("alike", found + found[-1:]))
        self.assertGreater(told, 20)

    def test_one_point_alone(self):
        # the one points at what the other one doesn't hold; its pattern has the hands (0, -1)
        none = reader_named("none", 2)
        for one, two in ((LAST, none), (none, LAST), (FIRST, none), (none, FIRST)):
            found = patterns(one, two)
            self.refuses(BadPaper, {"word": "point"}, need_likeness_paper, one, two, ("alike", found))
            self.assertEqual(likeness_paper(one, two), ("apart", (0,)))

    def test_chance_papers(self):
        rng = chance(333)
        wrong = 0
        for _ in range(200):
            reader, other = chance_pair(rng, 2, 4, 2)
            paper = ("alike", patterns(reader, other))
            if are_alike(reader, other):
                self.assertIs(need_likeness_paper(reader, other, paper), paper)
            else:
                wrong += 1
                self.refuses(BadPaper, {"word": "point"}, need_likeness_paper, reader, other, paper)
        self.assertGreater(wrong, 40)

    def test_errors(self):
        self.refuses_two(are_alike)
        self.refuses_two(parting_row)
        self.refuses_two(likeness_paper)
        self.refuses_two(need_likeness_paper, ("apart", (1,)))
        found = patterns(FIRST, LAST)
        for paper in OTHERS + (
                0, (), ("apart",), ("apart", (1,), 0), ("apart", [1]), ("apart", None), ("apart", (2,)),
                ("apart", (True,)), ("apart", (1, -1)), ("apart", ("1",)), ["apart", (1,)], ("other", (1,)),
                (None, (1,)), (b"apart", (1,)), ("alike", ()), ("alike", None), ("alike", list(found)),
                ("alike", found[1:]), ("alike", found + found[:1]), ("alike", found + ((2, 0, ()),)),
                ("alike", found + (None,)), ("alike", (0, 0, ())), ("alike", ((0, 0, []),)),
                ("alike", ((False, 0, ()),))):
            self.refuses(BadPaper, {"word": "form"}, need_likeness_paper, FIRST, LAST, paper)
        for word in ((), (0,)):
            self.refuses(BadPaper, {"word": "point"}, need_likeness_paper, FIRST, LAST, ("apart", word))
        paper = ("apart", (1, 1))
        self.assertIs(need_likeness_paper(FIRST, LAST, paper), paper)
        # a step that is missing comes ahead of a point that is unlike
        self.refuses(BadPaper, {"word": "step"}, need_likeness_paper, FIRST, LAST, ("alike", found[:3]))
        self.refuses(BadPaper, {"word": "point"}, need_likeness_paper, FIRST, LAST, ("alike", found))
        # patterns that don't come may stand there, too, if they lead to those that do
        more = patterns(FIRST, FIRST) + ((1, 0, ((0, -1),)),)
        self.refuses(BadPaper, {"word": "step"}, need_likeness_paper, FIRST, FIRST, ("alike", more))
        more += ((1, 1, ((0, -1), (-1, 0))),)
        self.refuses(BadPaper, {"word": "point"}, need_likeness_paper, FIRST, FIRST, ("alike", more))
        never = (2, (0, 1, 0), FIRST[2] + (((0, ()), (0, ())),), (-1, 0, -1))
        paper = ("alike", ((2, 2, ()),) + patterns(never, never))
        self.assertIs(need_likeness_paper(never, never, paper), paper)


if __name__ == "__main__":
    unittest.main()
