"""[17], [66], [67], [68], with [61], [63], [65]: steady readers, critical entries, even readers."""

from pointingreads.critical import critical_sieve, is_critical, marked_sieve
from pointingreads.errors import BadMark, BadPlace, NotSteady, TooGreat
from pointingreads.evenness import even_break, is_even
from pointingreads.least import least_reader
from pointingreads.leastsieves import least_sieve
from pointingreads.likes import are_alike
from pointingreads.merging import unmerged
from pointingreads.named import NAMES, first_of, last_of, reader_named
from pointingreads.outcomes import outcome
from pointingreads.outlooks import outlook
from pointingreads.picking import is_picked
from pointingreads.rankings import all_rankings, reader_of_ranking
from pointingreads.reading import point
from pointingreads.rows import length_of, mark_at
from pointingreads.steadiness import harmless_marks, is_steady, ranking_of, steady_break
from tests.helpers import (
    FIRST, GREAT, LAST, NO_INTEGERS, ONE_SORT, Case, as_row, chance, chance_reader, chance_row, holding_reader, keen_reader,
    mixed, slow_outcome, slow_picks, slow_point, words)

LIMITS = {1: 12, 2: 7, 3: 5, 4: 4}
UNCHANGED = (("none", "none"), ("other", "same"))


def chance_any(rng):
    """A reader, often a steady one."""
    sorts = rng.randint(1, 4)
    if rng.random() < 0.4:
        reader = reader_of_ranking(rng.choice(all_rankings(sorts)), sorts)
    else:
        make = rng.choice((chance_reader, holding_reader, keen_reader))
        reader = make(rng, sorts, rng.randint(2, 4), rng.randint(1, 2))
    return mixed(rng, reader)


def slow_critical(reader, word):
    return tuple(
        place for place in range(len(word)) if slow_outcome(reader, word, ("lost", place)) not in UNCHANGED)


def counter(moduli):
    """A reader of as many marks that points at the last entry if each mark came 0 times modulo its number."""
    stands = [()]
    for modulus in moduli:
        stands = [counts + (count,) for counts in stands for count in range(modulus)]
    steps = [
        tuple(
            (1 + stands.index(tuple(
                (count + (1 if place == mark else 0)) % moduli[place] for place, count in enumerate(counts))), (-1,))
            for mark in range(len(moduli)))
        for counts in stands]
    points = tuple(0 if not any(counts) else -1 for counts in stands)
    return (len(moduli), (0,) + (1,) * len(stands), (steps[0],) + tuple(steps), (-1,) + points)


class SteadinessTest(Case):
    def test_against_slow(self):
        rng = chance(521)
        kinds = {True: 0, False: 0}
        for _ in range(160):
            reader = chance_any(rng)
            breaks = [
                (word, place) for word in words(reader[0], LIMITS[reader[0]])
                for place in slow_critical(reader, word) if place != slow_point(reader, word)]
            steady = is_steady(reader)
            kinds[steady] += 1
            told = steady_break(reader)
            self.assertEqual(told is None, steady)
            if breaks:
                self.assertEqual(told, breaks[0])
            elif not steady:
                self.assertGreater(len(told[0]), LIMITS[reader[0]])
                self.assertIn(told[1], slow_critical(reader, told[0]))
            harmless = harmless_marks(reader)
            self.assertEqual(len(harmless) == reader[0], steady)
            self.assertFalse({word[place] for word, place in breaks} & set(harmless))
            # every harm is seen in short rows here
            self.assertEqual(
                tuple(sorted(set(range(reader[0])) - {word[place] for word, place in breaks})), harmless)
            # the facts
            self.assertEqual(unmerged(reader) is None, steady)
            self.assertEqual(not [pair for pair in outlook(reader, "lost") if pair in (
                ("none", "other"), ("other", "none"), ("other", "other"))], steady)
            self.assertEqual(all(
                pair[1] == "it" or pair in UNCHANGED for pair in outlook(reader, "put")), steady)
            if steady:
                self.assertTrue(are_alike(reader_of_ranking(ranking_of(reader), reader[0]), reader))
            else:
                self.refuses(NotSteady, {}, ranking_of, reader)
        self.assertGreater(min(kinds.values()), 40)

    def test_rankings(self):
        for sorts in (1, 2, 3):
            for ranking in all_rankings(sorts):
                reader = mixed(chance(sorts), reader_of_ranking(ranking, sorts))
                self.assertEqual(ranking_of(reader), ranking)
                self.assertEqual(harmless_marks(reader), tuple(range(sorts)))
                self.assertIsNone(steady_break(reader))
                self.assertEqual(is_even(reader), all(len(marks) == 1 for _, marks in ranking))
        self.assertEqual(ranking_of(first_of((2, 0), 4)), (("first", (2,)), ("first", (0,))))
        self.assertEqual(ranking_of(last_of((1, 3), 4)), (("last", (1,)), ("last", (3,))))

    def test_named_ones(self):
        steady = [name for name in NAMES if is_steady(reader_named(name, 2))]
        self.assertEqual(steady, ["none", "first", "last"])
        self.assertEqual(steady_break(reader_named("second", 1)), ((0, 0), 0))
        self.assertEqual(steady_break(reader_named("same as first", 2)), ((0, 1, 0), 0))
        self.assertEqual(harmless_marks(reader_named("same as first", 2)), ())
        self.assertEqual(harmless_marks(FIRST), (0, 1))
        # a mark that the reader never minds beside one that it does
        self.assertEqual(harmless_marks(counter((2, 1))), (1,))
        self.assertEqual(harmless_marks(counter((2, 3))), ())
        on_zeros = (2, (0, 0, 1), (((1, ()), (0, ())), ((2, (-1,)), (1, ())), ((2, (0,)), (2, (0,)))), (-1, -1, 0))
        self.assertEqual(harmless_marks(on_zeros), (1,))
        self.assertEqual(steady_break(on_zeros), ((0, 0), 0))

    def test_a_late_break(self):
        for many in (2, 20, 150):
            steps = [((stand + 1, ()),) for stand in range(many)] + [((many + 1, (-1,)),), ((many + 1, (0,)),)]
            late = (1, (0,) * (many + 1) + (1,), tuple(steps), (-1,) * (many + 1) + (0,))
            self.assertEqual(steady_break(late), ((0,) * (many + 1), 0))
            self.assertEqual(harmless_marks(late), ())

    def test_wrong_ones(self):
        for function in (is_steady, ranking_of, harmless_marks, steady_break, is_even, even_break, critical_sieve):
            self.refuses_readers(function)


class CriticalTest(Case):
    def test_against_slow(self):
        rng = chance(522)
        for _ in range(100):
            reader = chance_any(rng)
            sieve = critical_sieve(reader)
            self.assertEqual(least_sieve(sieve), sieve)
            mark = rng.randrange(reader[0])
            marked = marked_sieve(reader, mark)
            self.assertEqual(least_sieve(marked), marked)
            for word in words(reader[0], LIMITS[reader[0]]):
                critical = slow_critical(reader, word)
                self.assertEqual(slow_picks(sieve, word), critical)
                if len(word) < 4:
                    self.assertEqual(critical, tuple(
                        place for place in range(len(word)) if is_critical(reader, as_row(word), place)))
                self.assertEqual(slow_picks(marked, word), tuple(
                    place for place in range(len(word))
                    if slow_point(reader, word[:place] + (mark,) + word[place + 1:]) == place))

    def test_great_rows(self):
        rng = chance(523)
        for _ in range(60):
            reader = chance_any(rng)
            row = chance_row(rng, reader[0], 6, 4, GREAT) or (((0,), GREAT),)
            sieve = critical_sieve(reader)
            mark = rng.randrange(reader[0])
            marked = marked_sieve(reader, mark)
            places = [0, length_of(row) - 1, point(reader, row)] + [rng.randrange(length_of(row)) for _ in range(3)]
            for place in places:
                if place is None:
                    continue
                told = outcome(reader, row, ("lost", place)) not in UNCHANGED
                self.assertEqual(is_critical(reader, row, place), told)
                self.assertEqual(is_picked(sieve, row, place), told)
                self.assertEqual(
                    is_picked(marked, row, place), outcome(reader, row, ("marked", place, mark))[1] == "it")
                if place == point(reader, row):
                    self.assertTrue(told)
                    self.assertEqual(is_picked(marked_sieve(reader, mark_at(row, place)), row, place), True)

    def test_too_great(self):
        self.assertEqual(len(critical_sieve(counter((60, 1)))[1]), 61)
        self.refuses(TooGreat, {"most": 64}, critical_sieve, counter((9, 8)))
        self.refuses(TooGreat, {"most": 64}, marked_sieve, counter((9, 8)), 0)
        # other marks than this one do not matter
        self.assertEqual(len(marked_sieve(counter((64, 1)), 1)[1]), 64)
        self.refuses(TooGreat, {"most": 64}, marked_sieve, counter((65, 1)), 1)

    def test_wrong_ones(self):
        self.refuses_fit(is_critical, 0)
        row = (((0, 1), GREAT),)
        for value in NO_INTEGERS + (-1, 2 * GREAT):
            self.refuses(BadPlace, {"place": value}, is_critical, LAST, row, value)
        self.refuses(BadPlace, {"place": 0}, is_critical, LAST, (), 0)
        self.assertTrue(is_critical(LAST, row, 2 * GREAT - 1))
        self.refuses_readers(marked_sieve, 0)
        for value in NO_INTEGERS + (-1, 2, 4):
            self.refuses(BadMark, {"mark": value}, marked_sieve, LAST, value)
        self.refuses(BadMark, {"mark": 1}, marked_sieve, ONE_SORT, 1)
        self.refuses(BadMark, {"mark": 4}, marked_sieve, counter((9, 8)), 4)


def mark_of_point(reader, word):
    place = slow_point(reader, word)
    return None if place is None else word[place]


class EvennessTest(Case):
    def test_against_slow(self):
        rng = chance(524)
        kinds = {True: 0, False: 0}
        for _ in range(200):
            reader = chance_any(rng)
            found = None
            for word in words(reader[0], LIMITS[reader[0]]):
                told = mark_of_point(reader, word)
                places = [
                    place for place in range(len(word) - 1)
                    if mark_of_point(reader, word[:place] + (word[place + 1], word[place]) + word[place + 2:]) != told]
                if places:
                    found = (word, places[0])
                    break
            kinds[found is None] += 1
            self.assertEqual(is_even(reader), found is None)
            self.assertEqual(even_break(reader), found)
        self.assertGreater(min(kinds.values()), 30)

    def test_named_ones(self):
        for name in NAMES:
            self.assertTrue(is_even(reader_named(name, 1)))
            self.assertEqual(is_even(reader_named(name, 2)), name == "none")
        self.assertEqual(even_break(LAST), ((0, 1), 0))
        self.assertTrue(is_even(first_of((0, 1), 2)))
        # one that points nowhere late, if the marks stand so
        many = 30
        steps = [((stand + 1, ()),) * 2 for stand in range(many)] + [((many + 1, (-1,)), (many + 2, ()))]
        steps += [((stand, tuple(range(held))),) * 2 for stand, held in ((many + 1, 1), (many + 2, 0))]
        late = (2, (0,) * (many + 1) + (1, 0), tuple(steps), (-1,) * (many + 1) + (0, -1))
        self.assertEqual(even_break(late), ((0,) * many + (1,), many - 1))

    def test_too_great(self):
        # a stand for each count of the entries, and the marks of the last eight of them
        steps = []
        for stand in range(200):
            behind = stand + 1 if stand < 199 else 192
            many = min(behind, 8)
            keep = tuple(range(-1, many - 1))
            steps.append(((behind, keep),) * 2)
        held = tuple(min(stand, 8) for stand in range(200))
        points = tuple(-1 if many < 8 or stand == 199 else 7 for stand, many in enumerate(held))
        self.refuses(TooGreat, {"most": 2000}, is_even, (2, held, tuple(steps), points))
        self.refuses(TooGreat, {"most": 2000}, even_break, (2, held, tuple(steps), points))
        one = (1, held, tuple(row[:1] for row in steps), points)
        self.assertTrue(is_even(one))
        self.assertIsNone(even_break(one))
        # so many pairs and one more: stands without hands stand ahead of what takes many pairs
        many = max(number for number in range(9, 22) if pairs_of(ring(10, number)) <= 2000)
        some = pairs_of(ring(10, many))
        for ahead, great in ((10 + 2000 - some, False), (11 + 2000 - some, True)):
            reader = ring(ahead, many)
            self.assertEqual(pairs_of(reader), 2001 if great else 2000)
            if great:
                self.refuses(TooGreat, {"most": 2000}, is_even, reader)
                self.refuses(TooGreat, {"most": 2000}, even_break, reader)
            else:
                self.assertFalse(is_even(reader))
                self.assertIsNotNone(even_break(reader))


def ring(ahead, many):
    """A reader that waits for a while and then holds the last entries, with a ring of many stands."""
    stands = ahead + 8 + many
    held = [min(max(stand - ahead, 0), 8) for stand in range(stands)]
    steps = []
    for stand in range(stands):
        behind = stand + 1 if stand + 1 < stands else ahead + 8
        steps.append(((behind, tuple(range(-1, held[behind] - 1))),) * 2)
    points = tuple(7 if ahead + 8 < stand else -1 for stand in range(stands))
    return (2, tuple(held), tuple(steps), points)


def pairs_of(reader):
    """How many pairs of a stand of the least reader and the marks in its hands come."""
    least = least_reader(reader)
    found = {(0, ())}
    todo = [(0, ())]
    while todo:
        stand, marks = todo.pop()
        for mark, (behind, keep) in enumerate(least[2][stand]):
            pair = (behind, tuple(mark if hand < 0 else marks[hand] for hand in keep))
            if pair not in found:
                found.add(pair)
                todo.append(pair)
    return len(found)
