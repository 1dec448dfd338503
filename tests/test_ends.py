"""[76], [77], with [13]: what may still come, and what is settled."""

from pointingreads.ends import candidates, continuation, ends
from pointingreads.errors import BadNumber, BadPlace
from pointingreads.least import least_reader
from pointingreads.named import NAMES, reader_named
from pointingreads.picking import is_picked, pick_number, picked
from pointingreads.pieces import rows_joined
from pointingreads.reading import point
from pointingreads.records import candidates_of
from pointingreads.rows import length_of, plain
from pointingreads.summaries import tree_summary
from pointingreads.settled import is_settled, last_open, open_run, settled_ends, settling
from tests.helpers import (
    GREAT, LAST, NO_INTEGERS, Case, as_row, chance, chance_reader, chance_row, holding_reader, keen_reader, marks_of,
    slow_point, words)

FIRST = reader_named("first", 2)
LIMITS = {1: 12, 2: 6, 3: 4}


def ending_reader(rng, sorts, many):
    """A reader that settles early."""
    held = (0,) + tuple(rng.randint(0, 1) for _ in range(many)) + (0, 1)
    steps = []
    for stand in range(many + 1):
        row = []
        for _ in range(sorts):
            behind = rng.choice([to for to in range(stand + 1, many + 3) if held[to] <= held[stand] + 1])
            row.append((behind, tuple(rng.sample(range(-1, held[stand]), held[behind]))))
        steps.append(tuple(row))
    steps += [((many + 1, ()),) * sorts, ((many + 2, (0,)),) * sorts]
    points = tuple(rng.randint(-1, hands - 1) for hands in held[:-1]) + (0,)
    return (sorts, held, tuple(steps), points)


def chance_any(rng):
    sorts = rng.randint(1, 3)
    if rng.random() < 0.4:
        return ending_reader(rng, sorts, rng.randint(1, 4))
    return rng.choice((chance_reader, holding_reader, keen_reader))(rng, sorts, rng.randint(2, 4), rng.randint(1, 2))


def slow_end(reader, word, behind):
    place = slow_point(reader, word + behind)
    return "new" if place is not None and place >= len(word) else place


def by_ends(pairs):
    return tuple(sorted(pairs, key=lambda pair: (
        (0, 0) if pair[0] is None else (1, 0) if pair[0] == "new" else (2, pair[0]))))


class EndsTest(Case):
    def test_against_slow(self):
        rng = chance(531)
        for _ in range(120):
            reader = chance_any(rng)
            behinds = list(words(reader[0], LIMITS[reader[0]]))
            for _ in range(4):
                row = chance_row(rng, reader[0], 2, 3, 2)
                word = marks_of(row)
                first = {}
                for behind in behinds:
                    first.setdefault(slow_end(reader, word, behind), behind)
                told = ends(reader, row)
                for end, behind in told:
                    self.assertEqual(slow_end(reader, word, behind), end)
                    if end not in first:
                        self.assertGreater(len(behind), LIMITS[reader[0]])
                        first[end] = behind
                self.assertEqual(told, by_ends(first.items()))
                places = tuple(end for end, _ in told if end not in (None, "new"))
                self.assertEqual(candidates(reader, row), places)
                self.assertEqual(candidates(reader, row), picked(candidates_of(reader), row))
                for end in (None, "new") + tuple(range(len(word))):
                    self.assertEqual(continuation(reader, row, end), first.get(end))

    def test_named_ones(self):
        row = (((0, 1), GREAT),)
        last = 2 * GREAT - 1
        self.assertEqual(ends(LAST, row), (("new", (0,)), (last, ())))
        self.assertEqual(ends(LAST, ()), ((None, ()), ("new", (0,))))
        self.assertEqual(ends(FIRST, row), ((0, ()),))
        self.assertEqual(ends(FIRST, ()), ((None, ()), ("new", (0,))))
        self.assertEqual(ends(reader_named("none", 2), row), ((None, ()),))
        self.assertEqual(ends(reader_named("first or last", 2), row), (("new", (0,)), (0, ())))
        self.assertEqual(ends(reader_named("next to last", 2), row), (("new", (0, 0)), (last - 1, ()), (last, (0,))))
        self.assertEqual(ends(reader_named("same as first", 2), (((1,), GREAT),)), (("new", (1,)), (GREAT - 1, ())))
        self.assertEqual(candidates(reader_named("next to last", 2), row), (last - 1, last))
        self.assertEqual(candidates(LAST, ()), ())
        self.assertEqual(continuation(LAST, row, 0), None)
        self.assertEqual(continuation(LAST, row, last), ())
        self.assertEqual(continuation(LAST, row, "new"), (0,))

    def test_great_rows(self):
        rng = chance(532)
        for _ in range(60):
            reader = chance_any(rng)
            row = chance_row(rng, reader[0], 6, 4, GREAT)
            length = length_of(row)
            told = ends(reader, row)
            self.assertEqual(point(reader, row), [end for end, word in told if word == ()][0])
            for end, word in told:
                place = point(reader, rows_joined(row, plain(word)))
                self.assertEqual("new" if place is not None and place >= length else place, end)
            places = candidates(reader, row)
            self.assertEqual(len(places), pick_number(candidates_of(reader), row))
            self.assertTrue(all(is_picked(candidates_of(reader), row, place) for place in places))
            self.assertEqual(is_settled(reader, row), len(told) == 1)

    def test_wrong_ones(self):
        for function in (ends, candidates):
            self.refuses_fit(function)
        self.refuses_fit(continuation, None)
        row = (((0, 1), GREAT),)
        for value in NO_INTEGERS + (-1, 2 * GREAT, "NEW", "none", b"new", ("new",)):
            if value is not None:
                self.refuses(BadPlace, {"place": value}, continuation, LAST, row, value)
        self.refuses(BadPlace, {"place": 0}, continuation, LAST, (), 0)


class SettledTest(Case):
    def is_open_run(self, reader, number):
        """Whether there is an open row of this length; the one that is told is looked at."""
        told = open_run(reader, number)
        if told is None:
            return False
        ahead, again, times, rest = told
        self.assertLessEqual(max(map(len, (ahead, again, rest))), 400)
        self.assertEqual(times.__class__, int)
        least = least_reader(reader)
        length, behaviour, _ = tree_summary(least, ("join", (
            ("row", plain(ahead)), ("times", ("row", plain(again)), times), ("row", plain(rest)))))
        self.assertEqual(length, number)
        stand = behaviour[0][0]
        still = all(step == (stand, tuple(range(least[1][stand]))) for step in least[2][stand])
        self.assertFalse(still and least[1][stand] < 2)
        return True

    def test_against_slow(self):
        rng = chance(533)
        kinds = {}
        for _ in range(120):
            reader = chance_any(rng)
            limit = LIMITS[reader[0]]
            behinds = list(words(reader[0], limit))
            settled = {word: is_settled(reader, as_row(word)) for word in words(reader[0], limit + 2)}
            for word in rng.sample(list(words(reader[0], 2)), 2) + [()]:
                if settled[word]:
                    self.assertEqual(len({slow_end(reader, word, behind) for behind in behinds}), 1)
                self.assertEqual(settled[word], len(ends(reader, as_row(word))) == 1)
                told = settled_ends(reader, as_row(word))
                first = {}
                for behind in behinds:
                    if settled[word + behind]:
                        first.setdefault(slow_end(reader, word, behind), behind)
                least = settling(reader, as_row(word))
                for end, behind in told:
                    self.assertTrue(is_settled(reader, as_row(word + behind)))
                    self.assertEqual(slow_end(reader, word, behind), end)
                    if end not in first:
                        self.assertGreater(len(behind), limit)
                        first[end] = behind
                self.assertEqual(told, by_ends(first.items()))
                self.assertEqual(
                    least, min([behind for _, behind in told], key=lambda behind: (len(behind), behind), default=None))
            longest = max([len(word) for word in settled if not settled[word]], default=-1)
            told = last_open(reader)
            kinds[told] = kinds.get(told, 0) + 1
            self.assertEqual(longest, limit + 2 if told is None else min(told, limit + 2))
            for number in tuple(range(8)) + (1000, GREAT - 1, GREAT):
                self.assertEqual(self.is_open_run(reader, number), told is None or told >= number)
        self.assertGreater(len(kinds), 4)
        self.assertTrue({-1, None, 0, 1} <= set(kinds))

    def test_named_ones(self):
        row = (((0, 1), GREAT),)
        for name in NAMES:
            reader = reader_named(name, 2)
            self.assertEqual(is_settled(reader, row), name in ("none", "first", "second", "third"))
            self.assertEqual(last_open(reader), {"none": -1, "first": 0, "second": 1, "third": 2}.get(name))
        self.assertEqual(settling(reader_named("third", 2), ()), (0, 0, 0))
        self.assertEqual(settling(reader_named("third", 2), row), ())
        self.assertEqual(settling(LAST, row), None)
        self.assertEqual(settled_ends(LAST, row), ())
        self.assertEqual(settled_ends(FIRST, ()), (("new", (0,)),))
        self.assertEqual(settled_ends(FIRST, row), ((0, ()),))
        self.assertEqual(settled_ends(reader_named("none", 2), row), ((None, ()),))
        self.assertEqual(settled_ends(reader_named("third", 2), (((1,), 2),)), (("new", (0,)),))
        self.assertEqual(open_run(reader_named("none", 2), 0), None)
        self.assertEqual(open_run(FIRST, 1), None)
        self.assertTrue(self.is_open_run(FIRST, 0))
        self.assertTrue(self.is_open_run(LAST, GREAT))

    def test_many_stands(self):
        # a way of 120 stands, and then a circle of 79, of marks 1 alone; a 0 settles
        steps = [((199, ()), (stand + 1 if stand < 198 else 120, ())) for stand in range(199)] + [((199, ()),) * 2]
        reader = (2, (0,) * 200, tuple(steps), (-1,) * 200)
        self.assertEqual(last_open(reader), -1)
        held = (0,) * 150 + (1,) * 50
        steps = []
        for stand in range(198):
            behind = stand + 1 if stand < 197 else 120
            keep = () if held[behind] == 0 else (-1,) if held[stand] == 0 else (0,)
            steps.append(((198, ()) if held[stand] == 0 else (199, (0,)), (behind, keep)))
        steps += [((198, ()),) * 2, ((199, (0,)),) * 2]
        held = held[:198] + (0, 1)
        reader = (2, held, tuple(steps), (-1,) * 199 + (0,))
        self.assertLess(150, len(least_reader(reader)[1]))
        self.assertEqual(last_open(reader), None)
        for number in (0, 119, 120, 197, 198, 199, 1000, GREAT):
            self.assertTrue(self.is_open_run(reader, number))
        self.assertEqual(settled_ends(reader, (((1,), 149),)), ((None, (0,)), ("new", (1, 0))))

    def test_wrong_ones(self):
        for function in (is_settled, settling, settled_ends):
            self.refuses_fit(function)
        self.refuses_readers(last_open)
        self.refuses_readers(open_run, 0)
        for value in NO_INTEGERS + (-1, GREAT + 1):
            self.refuses(BadNumber, {"value": value}, open_run, LAST, value)
            self.refuses(BadNumber, {"value": value}, open_run, reader_named("none", 2), value)
