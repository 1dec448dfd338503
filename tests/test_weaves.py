"""[72], [73], [74], with [13]: readers put together, and readers of other rows and of parts of rows."""

from pointingreads.critical import Losses, critical_sieve
from pointingreads.errors import BadMark, BadReader, BadSorts, TooGreat
from pointingreads.glimpses import shows_more
from pointingreads.joints import Behind
from pointingreads.least import least_reader, stands_needed
from pointingreads.likes import are_alike
from pointingreads.named import NAMES, reader_named
from pointingreads.numbered import mark_count
from pointingreads.pieces import cut_out, turned_about
from pointingreads.reading import point
from pointingreads.rows import length_of
from pointingreads.weaves import (
    former, latter, mirrored, on_marks, reader_else, reader_if, reader_where, renamed)
from pointingreads.within import between, part_ahead, part_behind
from tests.helpers import (
    FIRST, GREAT, LAST, ONE_SORT, OTHERS, SPOILT, Case, chance, chance_pair, chance_reader, chance_row, chance_word,
    holding_reader, keen_reader, slow_point, words)

LIMITS = {1: 13, 2: 7, 3: 5, 4: 4}
TWO = (reader_else, former, latter, reader_if, reader_where, part_behind, part_ahead)


def slow_two(function, reader, other, word):
    """The point of two readers put together, as the document tells it."""
    place, other_place = slow_point(reader, word), slow_point(other, word)
    if function == reader_else:
        return other_place if place is None else place
    if function in (former, latter):
        found = [one for one in (place, other_place) if one is not None]
        return None if not found else min(found) if function == former else max(found)
    if function == reader_if:
        return None if other_place is None else place
    if function == reader_where:
        return place if place == other_place else None
    if place is None:
        return None
    if function == part_ahead:
        return slow_point(other, word[:place])
    found = slow_point(other, word[place + 1:])
    return None if found is None else place + 1 + found


def slow_between(reader, other, third, word):
    places = [slow_point(reader, word), slow_point(other, word)]
    if None in places or places[0] == places[1]:
        return None
    found = slow_point(third, word[min(places) + 1:max(places)])
    return None if found is None else min(places) + 1 + found


def counting(many, mark, sorts=2):
    """A reader that points at the last entry if the number of entries with the mark is 0 modulo many."""
    steps = []
    for stand in range(many + 1):
        count = max(stand - 1, 0)
        steps.append(tuple(
            (1 + (count + (1 if one == mark else 0)) % many, (-1,)) for one in range(sorts)))
    return (sorts, (0,) + (1,) * many, tuple(steps), (-1, 0) + (-1,) * (many - 1))


class TwoTest(Case):
    def test_against_slow(self):
        rng = chance(511)
        for _ in range(120):
            reader, other = chance_pair(rng, 4, 4, 3)
            for function in TWO:
                told = function(reader, other)
                self.assertEqual(least_reader(told), told)
                for word in words(reader[0], LIMITS[reader[0]]):
                    self.assertEqual(slow_point(told, word), slow_two(function, reader, other, word))

    def test_rich_readers_on_longer_words(self):
        rng = chance(512)
        great = 0
        for _ in range(40):
            sorts = rng.randint(1, 3)
            reader, other = keen_reader(rng, sorts, 6, 3), keen_reader(rng, sorts, 6, 3)
            for function in TWO:
                try:
                    told = function(reader, other)
                except TooGreat as error:
                    self.assertIn(error.most, (200, 8))
                    great += 1
                    continue
                self.assertEqual(least_reader(told), told)
                for _ in range(60):
                    word = chance_word(rng, sorts, 30)
                    self.assertEqual(slow_point(told, word), slow_two(function, reader, other, word))
        self.assertLess(great, 60)

    def test_great_rows(self):
        rng = chance(513)
        for _ in range(40):
            reader, other = chance_pair(rng, 3, 3, 2)
            row = chance_row(rng, reader[0], 6, 3, GREAT)
            place, other_place = point(reader, row), point(other, row)
            self.assertEqual(point(reader_else(reader, other), row), other_place if place is None else place)
            behind, ahead = part_behind(reader, other), part_ahead(reader, other)
            if place is None:
                self.assertEqual((point(behind, row), point(ahead, row)), (None, None))
            else:
                self.assertEqual(point(ahead, row), point(other, cut_out(row, 0, place)))
                told = point(other, cut_out(row, place + 1, length_of(row)))
                self.assertEqual(point(behind, row), None if told is None else told + place + 1)

    def test_named_ones(self):
        first, last, none = [reader_named(name, 2) for name in ("first", "last", "none")]
        self.assertEqual(part_behind(first, first), reader_named("second", 2))
        self.assertEqual(part_behind(reader_named("second", 2), first), reader_named("third", 2))
        self.assertEqual(part_ahead(last, last), least_reader(reader_named("next to last", 2)))
        self.assertEqual(former(first, last), first)
        self.assertEqual(latter(first, last), last)
        for name in NAMES:
            reader = reader_named(name, 2)
            least = least_reader(reader)
            for function in (reader_else, former, latter, reader_if, reader_where):
                self.assertEqual(function(reader, reader), least)
            self.assertEqual(reader_else(none, reader), least)
            self.assertEqual(reader_else(reader, none), least)
            self.assertEqual(reader_if(reader, none), none)
            self.assertEqual(reader_if(none, reader), none)
            self.assertEqual(reader_where(reader, none), none)
            self.assertEqual(part_behind(none, reader), none)
            self.assertEqual(part_ahead(reader, none), none)
            self.assertEqual(part_behind(last, reader), none)
            self.assertEqual(part_ahead(first, reader), none)

    def test_too_great(self):
        # every pair of counts is a stand, and one more stands ahead of all
        one, other = counting(14, 0), counting(14, 1)
        self.assertEqual(len(reader_else(one, other)[1]), 197)
        self.refuses(TooGreat, {"most": 200}, reader_else, counting(15, 0), other)
        self.refuses(TooGreat, {"most": 200}, reader_if, counting(15, 0), other)
        self.refuses(TooGreat, {"most": 200}, reader_where, counting(15, 0), other)
        self.refuses(TooGreat, {"most": 200}, former, counting(15, 0), other)
        self.refuses(TooGreat, {"most": 200}, part_ahead, counting(15, 0), other)
        self.assertEqual(reader_else(counting(199, 0), LAST), least_reader(LAST))
        self.assertEqual(stands_needed(reader_else(counting(199, 0), reader_named("none", 2))), 200)
        # the last entries, as many as there are hands, and one more
        eighth = last_but(7)
        self.assertEqual(len(part_ahead(last_but(0), last_but(6))[1]), 9)
        self.refuses(TooGreat, {"most": 8}, part_ahead, last_but(0), eighth)
        self.refuses(TooGreat, {"most": 200}, reader_else, counting(199, 0), part_ahead(LAST, LAST))

    def test_many_stands_together(self):
        # more pairs of stands than are looked at without a glimpse at short rows
        always = always_one(199)
        self.assertEqual(stands_needed(always), 200)
        other = counting(198, 1)
        least = least_reader(always)
        self.assertEqual(reader_else(always, other), least)
        self.assertEqual(reader_if(other, always), least_reader(other))
        self.assertEqual(reader_where(always, always), least)
        self.refuses(TooGreat, {"most": 200}, reader_if, always, other)
        rng = chance(518)
        reader, other = holding_reader(rng, 2, 120, 4), holding_reader(rng, 2, 120, 4)
        for function in TWO:
            self.refuses(TooGreat, {"most": 200}, function, reader, other)
        self.refuses(TooGreat, {"most": 200}, between, reader, other, reader)

    def test_glimpses(self):
        # what short rows show is never more than there is, and often as much
        rng = chance(519)
        shown = 0
        for _ in range(60):
            sorts = rng.randint(1, 4)
            reader, other = [least_reader(holding_reader(rng, sorts, rng.randint(2, 5), 2)) for _ in range(2)]
            stands = len(part_behind(reader, other)[1])
            self.assertFalse(shows_more(Behind(reader, other), stands, True))
            shown += shows_more(Behind(reader, other), stands - 1, True)
            try:
                sieve = critical_sieve(reader)
            except TooGreat:
                continue
            self.assertFalse(shows_more(Losses(reader), len(sieve[1]), False))
            shown += shows_more(Losses(reader), len(sieve[1]) - 1, False)
        self.assertGreater(shown, 80)

    def test_wrong_ones(self):
        for function in TWO:
            self.refuses_two(function)


def always_one(many):
    """A reader of two marks that points at the last mark 0 whose number is 0 modulo many, else at the first entry."""
    steps = []
    for stand in range(many + 1):
        count = max(stand - 1, 0)
        zero = (count + 1) % many
        steps.append((
            (1 + zero, (-1,) if zero == 0 or stand == 0 else (0,)), (1 + count, (-1,) if stand == 0 else (0,))))
    return (2, (0,) + (1,) * many, tuple(steps), (-1,) + (0,) * many)


def last_but(many):
    """A reader of two marks that points at the entry with many entries behind it."""
    steps = []
    for stand in range(many + 2):
        behind = min(stand + 1, many + 1)
        steps.append(((behind, tuple(range(-1, behind - 1))),) * 2)
    return (2, tuple(range(many + 2)), tuple(steps), (-1,) * (many + 1) + (many,))


def late(many):
    """A reader of two marks that points at the entry with many entries ahead of it."""
    steps = [((stand + 1, ()),) * 2 for stand in range(many)] + [((many + 1, (-1,)),) * 2, ((many + 1, (0,)),) * 2]
    return (2, (0,) * (many + 1) + (1,), tuple(steps), (-1,) * (many + 1) + (0,))


class OneTest(Case):
    def test_against_slow(self):
        rng = chance(514)
        for _ in range(150):
            sorts = rng.randint(1, 4)
            reader = rng.choice((chance_reader, holding_reader))(rng, sorts, rng.randint(1, 4), rng.randint(1, 3))
            marks = tuple(sorted(rng.sample(range(sorts), rng.randint(0, sorts))))
            told = on_marks(reader, marks)
            self.assertEqual(least_reader(told), told)
            turned = mirrored(reader)
            self.assertEqual(least_reader(turned), turned)
            self.assertTrue(are_alike(mirrored(turned), reader))
            for word in words(sorts, LIMITS[sorts]):
                places = [place for place, mark in enumerate(word) if mark in marks]
                place = slow_point(reader, tuple(word[at] for at in places))
                self.assertEqual(slow_point(told, word), None if place is None else places[place])
                place = slow_point(reader, word[::-1])
                self.assertEqual(slow_point(turned, word), None if place is None else len(word) - 1 - place)
            names = tuple(rng.randrange(sorts) for _ in range(rng.randint(1, 4)))
            told = renamed(reader, names)
            self.assertEqual(least_reader(told), told)
            self.assertEqual(told[0], len(names))
            for word in words(len(names), LIMITS[len(names)]):
                self.assertEqual(slow_point(told, word), slow_point(reader, tuple(names[mark] for mark in word)))

    def test_named_ones(self):
        for sorts in (1, 2, 3, 4):
            first, last = reader_named("first", sorts), reader_named("last", sorts)
            self.assertEqual(mirrored(first), last)
            self.assertEqual(mirrored(last), first)
            self.assertEqual(mirrored(reader_named("next to last", sorts)), reader_named("second", sorts))
            self.assertEqual(on_marks(last, ()), reader_named("none", sorts))
            self.assertEqual(on_marks(last, tuple(range(sorts))), last)
            self.assertEqual(renamed(last, (0, 0)), reader_named("last", 2))
        self.assertEqual(renamed(FIRST, (1,)), reader_named("none", 1))
        self.assertEqual(renamed(FIRST, (0, 1, 1, 0))[0], 4)

    def test_great_rows(self):
        rng = chance(515)
        for _ in range(40):
            reader = keen_reader(rng, 2, 4, 2)
            row = chance_row(rng, 2, 6, 3, GREAT)
            place = point(reader, turned_about(row))
            try:
                told = point(mirrored(reader), row)
            except TooGreat:
                continue
            self.assertEqual(told, None if place is None else length_of(row) - 1 - place)
            many = mark_count(row, 1, length_of(row))
            if 1 <= many <= GREAT:
                place = point(renamed(reader, (1,)), (((0,), many),))
                told = point(on_marks(reader, (1,)), row)
                self.assertEqual(place, None if told is None else mark_count(row, 1, told))

    def test_too_great(self):
        self.assertEqual(mirrored(last_but(7)), late(7))
        self.assertEqual(mirrored(late(7)), least_reader(last_but(7)))
        self.refuses(TooGreat, {"most": 8}, mirrored, late(8))
        self.refuses(TooGreat, {"most": 8}, mirrored, late(198))
        found = []
        for seed in range(20):
            try:
                mirrored(holding_reader(chance(seed), 2, 8, 3))
            except TooGreat as error:
                found.append(error.most)
        self.assertIn(200, found)
        self.assertEqual(mirrored(counting(100, 0))[0], 2)

    def test_wrong_marks(self):
        for function in (on_marks, mirrored, renamed):
            self.refuses_readers(function, *(() if function == mirrored else ((0,),)))
        for value in OTHERS + (0, ((0,),), (0, 2), (-1,), (False,), (True,), (1.0,), ("0",), (None,), [0], {0: 0}):
            self.refuses(BadMark, {"mark": value}, on_marks, FIRST, value)
            self.refuses(BadMark, {"mark": value}, renamed, FIRST, value)
        for value in ((1, 0), (0, 0), (0, 1, 1)):
            self.refuses(BadMark, {"mark": value}, on_marks, FIRST, value)
        for value in ((), (0,) * 5):
            self.refuses(BadMark, {"mark": value}, renamed, FIRST, value)
        self.refuses(BadMark, {"mark": (1,)}, renamed, ONE_SORT, (1,))
        self.refuses(BadMark, {"mark": (1,)}, on_marks, ONE_SORT, (1,))


class BetweenTest(Case):
    def test_against_slow(self):
        rng = chance(517)
        for _ in range(120):
            reader, other = chance_pair(rng, 3, 3, 2)
            sorts = reader[0]
            third = rng.choice((chance_reader, holding_reader))(rng, sorts, rng.randint(1, 3), rng.randint(1, 2))
            told = between(reader, other, third)
            self.assertEqual(told, between(other, reader, third))
            self.assertEqual(least_reader(told), told)
            for word in words(sorts, LIMITS[sorts]):
                self.assertEqual(slow_point(told, word), slow_between(reader, other, third, word))

    def test_named_ones(self):
        first, last, none = [reader_named(name, 2) for name in ("first", "last", "none")]
        self.assertEqual(between(first, first, last), none)
        self.assertEqual(between(first, last, none), none)
        self.assertEqual(between(none, last, first), none)
        told = between(last, first, first)
        self.assertEqual([point(told, (((0,), many),)) for many in (1, 2, 3, GREAT)], [None, None, 1, 1])
        told = between(last, first, last)
        self.assertEqual([point(told, (((0,), many),)) for many in (1, 2, 3, GREAT)], [None, None, 1, GREAT - 2])

    def test_wrong_ones(self):
        for value, (word, stand) in SPOILT:
            fields = {"word": word, "stand": stand}
            self.refuses(BadReader, fields, between, value, ONE_SORT, None)
            self.refuses(BadReader, fields, between, FIRST, value, None)
            self.refuses(BadReader, fields, between, FIRST, ONE_SORT, value)
        three = reader_named("last", 3)
        self.refuses(BadSorts, {"value": 1}, between, FIRST, ONE_SORT, three)
        self.refuses(BadSorts, {"value": 3}, between, FIRST, three, ONE_SORT)
        self.refuses(BadSorts, {"value": 1}, between, FIRST, LAST, ONE_SORT)
        self.refuses(BadSorts, {"value": 2}, between, ONE_SORT, LAST, FIRST)
        self.refuses(TooGreat, {"most": 200}, between, reader_named("first", 2), counting(15, 0), counting(14, 1))
