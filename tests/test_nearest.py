"""[78], [79]: the fewest changes to and off a point, and ends that one of two sides can force."""

import functools

from pointingreads.ends import candidates, ends
from pointingreads.errors import BadNumber, BadPlace, TooGreat
from pointingreads.forcing import forced_in, forcing_mark, holding_mark
from pointingreads.least import hands_needed
from pointingreads.named import NAMES, reader_named
from pointingreads.nearest import fewest_off, fewest_to, script_off, script_to
from pointingreads.rankings import all_rankings, reader_of_ranking
from pointingreads.reading import point
from pointingreads.settled import is_settled
from tests.helpers import (
    FIRST, GREAT, LAST, NO_INTEGERS, Case, all_changes, as_row, chance, chance_reader, chance_row, chance_word,
    holding_reader, keen_reader, slow_point)

LIGHT = ("lost", "put", "marked")
MOST = 3


def chance_any(rng, sorts):
    if rng.random() < 0.2:
        return reader_of_ranking(rng.choice(all_rankings(sorts)), sorts)
    return rng.choice((chance_reader, holding_reader, keen_reader))(rng, sorts, rng.randint(2, 4), rng.randint(1, 2))


def done(entries, change):
    """The entries, pairs (name, mark), behind a change; what is put in has the name None."""
    found = list(entries)
    if change[0] == "lost":
        del found[change[1]]
    elif change[0] == "put":
        found.insert(change[1], (None, change[2]))
    else:
        found[change[1]] = (found[change[1]][0], change[2])
    return tuple(found)


def changes_let(entries, sorts, name, can_mark):
    """The light changes of a row that leave the entry with a name."""
    for kind in LIGHT:
        for change in all_changes(kind, len(entries), sorts):
            held = kind == "lost" or (kind == "marked" and not can_mark)
            if not (held and name is not None and entries[change[1]][0] == name):
                yield change


def name_pointed(reader, entries):
    """The name of the point: (False, None) of no point, otherwise (True, name)."""
    place = slow_point(reader, tuple(mark for _, mark in entries))
    return (False, None) if place is None else (True, entries[place][0])


def slow_fewest(reader, word, name, can_mark, is_right):
    """How many changes a shortest script has; None if it has more than MOST."""
    layer = {tuple(enumerate(word))}
    seen = set(layer)
    for many in range(MOST + 1):
        if any(is_right(entries) for entries in layer):
            return many
        layer = {
            done(entries, change) for entries in layer
            for change in changes_let(entries, reader[0], name, can_mark)} - seen
        seen |= layer
    return None


class NearestTest(Case):
    def holds(self, reader, word, fewest, script, name, can_mark, is_right):
        slow = slow_fewest(reader, word, name, can_mark, is_right)
        self.assertEqual(slow, fewest if fewest is None or fewest <= MOST else None)
        if fewest is None:
            self.assertIsNone(script)
            return
        self.assertEqual(len(script), fewest)
        entries = tuple(enumerate(word))
        for change in script:
            self.assertIn(change, list(changes_let(entries, reader[0], name, can_mark)))
            entries = done(entries, change)
        self.assertTrue(is_right(entries))

    def test_against_slow(self):
        rng = chance(541)
        found = set()
        for _ in range(60):
            sorts = rng.randint(1, 2)
            reader = chance_any(rng, sorts)
            word = chance_word(rng, sorts, 4)
            row = as_row(word)
            for place in range(len(word)):
                fewest, script = fewest_to(reader, row, place), script_to(reader, row, place)
                self.holds(
                    reader, word, fewest, script, place, True,
                    lambda entries: name_pointed(reader, entries) == (True, place))
                # the fact
                self.assertEqual(fewest is None, hands_needed(reader) == 0)
                self.assertEqual(fewest == 0, point(reader, row) == place)
                found.add(("to", fewest))
            place = point(reader, row)
            fewest, script = fewest_off(reader, row), script_off(reader, row)
            if place is None:
                self.holds(reader, word, fewest, script, None, True, lambda entries: name_pointed(reader, entries)[0])
            else:
                self.holds(
                    reader, word, fewest, script, place, False,
                    lambda entries: name_pointed(reader, entries) != (True, place))
            found.add(("off", fewest))
        self.assertTrue({("to", 0), ("to", 1), ("to", 2), ("to", None), ("off", 1), ("off", 2), ("off", None)} <= found)

    def test_named_ones(self):
        row = (((0, 1), 150),)
        first, last = reader_named("first", 2), reader_named("last", 2)
        self.assertEqual([fewest_to(first, row, place) for place in (0, 1, 299)], [0, 1, 299])
        self.assertEqual([fewest_to(last, row, place) for place in (0, 1, 299)], [299, 298, 0])
        self.assertEqual(script_to(first, row, 0), ())
        self.assertEqual(len(script_to(last, row, 200)), 99)
        self.assertEqual(fewest_to(LAST, (((1,), 300),), 299), 0)
        self.assertEqual(fewest_to(FIRST, (((1,), 300),), 299), 1)
        self.assertEqual(script_to(FIRST, (((1,), 300),), 7), (("marked", 7, 0),))
        self.assertEqual(fewest_off(first, row), 1)
        self.assertEqual(fewest_off(FIRST, (((1, 0), 1),)), 1)
        self.assertEqual(fewest_off(first, ()), 1)
        self.assertEqual(fewest_off(reader_named("third", 2), ()), 3)
        self.assertEqual(fewest_off(reader_named("none", 2), row), None)
        self.assertEqual(fewest_to(reader_named("none", 2), row, 0), None)
        self.assertEqual(script_off(reader_named("none", 2), ()), None)
        self.assertEqual(fewest_to(reader_named("next to last", 2), (((0,), 1),), 0), 1)
        self.assertEqual(fewest_to(reader_named("even last", 2), (((0,), 300),), 1), 298)

    def test_an_entry_that_is_never_let_go(self):
        # "first" with one mark alone: whatever is put in ahead is the first one
        only = (1, (0, 1), (((1, (-1,)),), ((1, (0,)),)), (-1, 0))
        self.assertEqual(script_off(only, (((0,), 5),)), (("put", 0, 0),))
        # a reader that points at the first entry of at most so many, at none of more
        held = (0, 1, 1, 0)
        steps = (((1, (-1,)),), ((2, (0,)),), ((3, ()),), ((3, ()),))
        few = (1, held, steps, (-1, 0, 0, -1))
        self.assertEqual([fewest_to(few, (((0,), many),), 0) for many in (1, 2, 3, 9)], [0, 0, 1, 7])
        self.assertEqual([fewest_off(few, (((0,), many),)) for many in (1, 2, 3, 9)], [1, 1, 1, 7])

    def test_wrong_ones(self):
        for function in (fewest_to, script_to):
            self.refuses_fit(function, 0)
            for value in NO_INTEGERS + (-1, 301, GREAT):
                self.refuses(BadPlace, {"place": value}, function, LAST, (((0,), 301),), value)
            self.refuses(BadPlace, {"place": 0}, function, LAST, (), 0)
            self.refuses(TooGreat, {"most": 300}, function, LAST, (((0,), 301),), 300)
            self.refuses(TooGreat, {"most": 300}, function, LAST, (((0, 1), GREAT),), 2 * GREAT - 1)
        for function in (fewest_off, script_off):
            self.refuses_fit(function)
            self.refuses(TooGreat, {"most": 300}, function, LAST, (((0,), 301),))
            self.refuses(TooGreat, {"most": 300}, function, LAST, (((0, 1), GREAT),))


def slow_forced(reader, word, end, turn, most):
    """In how many marks the end is forced; None if in more than most."""
    def is_had(behind):
        row = as_row(word + behind)
        return is_settled(reader, row) and ends(reader, row)[0][0] == end and (end is None or end < len(word))

    @functools.lru_cache(None)
    def value(behind, one, left):
        if is_had(behind):
            return 0
        if left == 0:
            return None
        values = [value(behind + (mark,), not one, left - 1) for mark in range(reader[0])]
        known = [told for told in values if told is not None]
        if one:
            return 1 + min(known) if known else None
        return 1 + max(known) if len(known) == len(values) else None

    return value((), turn == 0, most)


def racing_reader(rng, sorts, many):
    """A reader that holds the first entry, and settles on it or on none, in at most so many marks more."""
    held = [0] + [1] * many + [1, 0]
    steps = [((1, (-1,)),) * sorts]
    for stand in range(1, many + 1):
        row = []
        for _ in range(sorts):
            behind = rng.choice(list(range(stand, many + 3)) + [many + 1] * 3)
            row.append((behind, (0,) * held[behind]))
        steps.append(tuple(row))
    steps += [((many + 1, (0,)),) * sorts, ((many + 2, ()),) * sorts]
    return (sorts, tuple(held), tuple(steps), (-1,) + tuple(
        rng.choice((-1, 0)) for _ in range(many)) + (0, -1))


class ForcingTest(Case):
    def test_against_slow(self):
        rng = chance(542)
        found = set()
        for _ in range(70):
            sorts = rng.randint(1, 3)
            most = {1: 9, 2: 6, 3: 4}[sorts]
            if rng.random() < 0.7:
                reader = racing_reader(rng, sorts, rng.randint(1, 4))
            else:
                reader = chance_any(rng, sorts)
            word = chance_word(rng, sorts, 2)
            row = as_row(word)
            for end in (None,) + tuple(range(len(word))):
                for turn in (0, 1):
                    told = forced_in(reader, row, end, turn)
                    slow = slow_forced(reader, word, end, turn, most)
                    self.assertEqual(slow, told if told is None or told <= most else None)
                    found.add((turn, told))
                    if end is not None and end not in candidates(reader, row):
                        self.assertIsNone(told)
                told = forced_in(reader, row, end, 0)
                values = [forced_in(reader, as_row(word + (mark,)), end, 1) for mark in range(sorts)]
                self.assertEqual(forcing_mark(reader, row, end), values.index(told - 1) if told else None)
                values = [forced_in(reader, as_row(word + (mark,)), end, 0) for mark in range(sorts)]
                self.assertEqual(
                    holding_mark(reader, row, end), values.index(None) if None in values else None)
        self.assertTrue({(0, 0), (0, 1), (0, 2), (0, None), (1, 0), (1, 1), (1, 2), (1, None)} <= found, found)

    def test_named_ones(self):
        row = (((0, 1), GREAT),)
        for name in NAMES:
            reader = reader_named(name, 2)
            had = name in ("none", "first", "second", "third")
            self.assertEqual(forced_in(reader, row, point(reader, row), 0), 0 if had else None)
            self.assertEqual(forcing_mark(reader, row, point(reader, row)), None)
            self.assertEqual(holding_mark(reader, row, point(reader, row)), None if had else 0)
            self.assertEqual(holding_mark(reader, row, 5), 0)
        self.assertEqual(forced_in(reader_named("second", 2), (((0,), 2),), 1, 1), 0)
        self.assertEqual(forced_in(reader_named("second", 2), (((0,), 1),), None, 1), None)

    def test_a_race(self):
        # the first entry is the point for good once two marks 0 have come, none is if a 1 comes first
        steps = (
            ((1, (-1,)), (1, (-1,))), ((2, (0,)), (4, ())), ((3, (0,)), (2, (0,))), ((3, (0,)), (3, (0,))),
            ((4, ()), (4, ())))
        reader = (2, (0, 1, 1, 1, 0), steps, (-1, -1, -1, 0, -1))
        row = (((1,), 1),)
        self.assertEqual([forced_in(reader, row, 0, turn) for turn in (0, 1)], [3, None])
        # behind a 0 the other side keeps putting 1, the one puts 0
        self.assertEqual(forced_in(reader, (((1, 0), 1),), 0, 0), 1)
        self.assertEqual(forced_in(reader, (((1, 0), 1),), 0, 1), 2)
        self.assertEqual(forced_in(reader, (((1, 0, 1), 1),), 0, 1), 2)
        self.assertEqual(forcing_mark(reader, (((1, 0), 1),), 0), 0)
        self.assertEqual(holding_mark(reader, (((1, 0), 1),), 0), None)
        self.assertEqual(forced_in(reader, row, None, 0), 1)
        self.assertEqual(forcing_mark(reader, row, None), 1)
        self.assertEqual(forced_in(reader, row, None, 1), None)
        self.assertEqual(holding_mark(reader, row, None), 0)
        self.assertEqual(holding_mark(reader, row, 0), 1)

    def test_many_stands(self):
        many = 198
        steps = tuple(((stand + 1, ()), (stand + 1, ())) for stand in range(many)) + (((many, ()),) * 2,)
        reader = (2, (0,) * (many + 1), steps, (-1,) * (many + 1))
        self.assertEqual(forced_in(reader, (), None, 1), 0)
        held = (0,) + (1,) * many
        steps = (((1, (-1,)),) * 2,) + tuple(
            ((min(stand + 1, many), (0,)),) * 2 for stand in range(1, many + 1))
        reader = (2, held, steps, (-1,) * many + (0,))
        self.assertEqual(forced_in(reader, (((1,), 1),), 0, 1), many - 1)
        self.assertEqual(forcing_mark(reader, (((1,), 1),), 0), 0)

    def test_wrong_ones(self):
        row = (((0, 1), GREAT),)
        self.refuses_fit(forced_in, None, 0)
        for function in (forcing_mark, holding_mark):
            self.refuses_fit(function, None)
        for value in NO_INTEGERS + (-1, 2 * GREAT, "new"):
            if value is None:
                continue
            self.refuses(BadPlace, {"place": value}, forcing_mark, LAST, row, value)
            self.refuses(BadPlace, {"place": value}, holding_mark, LAST, row, value)
            self.refuses(BadPlace, {"place": value}, forced_in, LAST, row, value, None)
        for value in NO_INTEGERS + (-1, 2):
            self.refuses(BadNumber, {"value": value}, forced_in, LAST, row, None, value)
            self.refuses(BadNumber, {"value": value}, forced_in, LAST, row, 0, value)
        for _ in range(3):
            self.assertIsNone(forced_in(LAST, chance_row(chance(5), 2, 2, 2, 2), None, 0))
