"""[40], [13]: records and candidates as sieves."""

import unittest

from pointingreads.errors import TooGreat
from pointingreads.least import hands_needed
from pointingreads.leastsieves import least_sieve
from pointingreads.lookers import is_looker
from pointingreads.named import reader_named
from pointingreads.picking import picked
from pointingreads.records import candidates_of, records_of
from tests.helpers import (
    Case, as_row, chance, chance_reader, holding_reader, mixed, slow_picks, slow_point, words)


def slow_records(reader, word):
    found = {slow_point(reader, word[:many]) for many in range(len(word) + 1)}
    return tuple(sorted(found - {None}))


def slow_candidates(reader, word, more):
    found = {slow_point(reader, word + rest) for rest in words(reader[0], more)}
    return tuple(sorted(place for place in found if place is not None and place < len(word)))


def at_place(number, sorts=1):
    """A reader that points at the entry with this number, counted from 1."""
    steps = tuple(((stand + 1, ()),) * sorts for stand in range(number - 1))
    steps += (((number, (-1,)),) * sorts, ((number, (0,)),) * sorts)
    return (sorts, (0,) * number + (1,), steps, (-1,) * number + (0,))


def from_end(number):
    """A reader of one mark that points at the entry with this number from the end."""
    held = tuple(range(number + 1))
    steps = tuple(((min(stand + 1, number), ((-1,) + tuple(range(stand)))[:number]),) for stand in range(number + 1))
    return (1, held, steps, (-1,) * number + (number - 1,))


def turning_hands(hands):
    """A reader that points at each entry with the mark 0 at once, and turns its hands by the other marks."""
    steps = []
    for many in range(hands):
        stays = (many, tuple(range(many)))
        steps.append(((many + 1, (-1,) + tuple(range(many))), stays, stays))
    full = tuple(range(hands))
    steps += [((hands, (-1,) + full[:-1]), (hands + 1, full[1:] + full[:1]), (hands + 2, (1, 0) + full[2:]))] * 3
    return (3, full + (hands,) * 3, tuple(steps), (-1,) + (0,) * hands + (-1, hands // 2))


class RecordsTest(Case):
    def test_against_slow(self):
        rng = chance(301)
        told = 0
        for _ in range(150):
            sorts = rng.randint(1, 3)
            make = rng.choice((chance_reader, holding_reader))
            reader = make(rng, sorts, rng.randint(1, 4), rng.randint(0, 1) + 1)
            deep = {1: 10, 2: 6, 3: 4}[sorts]
            try:
                records, candidates = records_of(reader), candidates_of(reader)
            except TooGreat as error:
                self.assertEqual(error.most, 64)
                continue
            told += 1
            self.assertEqual(least_sieve(records), records)
            self.assertEqual(least_sieve(candidates), candidates)
            other = mixed(rng, reader)
            self.assertEqual((records_of(other), candidates_of(other)), (records, candidates))
            for word in words(sorts, deep):
                picks = slow_picks(candidates, word)
                self.assertEqual(slow_picks(records, word), slow_records(reader, word))
                self.assertLessEqual(len(picks), hands_needed(reader))
                if len(word) < 4:
                    self.assertEqual(picks, slow_candidates(reader, word, {1: 14, 2: 6, 3: 4}[sorts]))
        self.assertGreater(told, 100)

    def test_named_readers(self):
        word = (0, 1, 1, 0, 1)
        for name, records, candidates in (
                ("none", (), ()), ("first", (0,), (0,)), ("last", (0, 1, 2, 3, 4), (4,)),
                ("second", (1,), (1,)), ("next to last", (0, 1, 2, 3), (3, 4)), ("third", (2,), (2,)),
                ("first or last", (0, 2, 4), (0, 4)), ("new", (0, 1, 3, 4), (4,)),
                ("even last", (0, 2, 4), (4,)), ("same as first", (0, 3), (3,))):
            reader = reader_named(name, 2)
            self.assertEqual(picked(records_of(reader), as_row(word)), records, name)
            self.assertEqual(picked(candidates_of(reader), as_row(word)), candidates, name)
        self.assertIs(is_looker(candidates_of(reader_named("last", 3))), True)
        self.assertEqual(records_of(reader_named("none", 1)), (1, ((0,),), ((0,),), (((False,),),)))
        last = (1, ((0,),), ((0,),), (((True,),),))
        self.assertEqual(records_of(reader_named("last", 1)), last)

    def test_sixty_four_and_sixty_five_states(self):
        for function in (records_of, candidates_of):
            self.assertEqual(len(function(at_place(63))[1]), 64)
            self.refuses(TooGreat, {"most": 64}, function, at_place(64))
        # what is behind counts: the third last entry and what may become it
        self.assertEqual([len(table) for table in records_of(from_end(3))[1:3]], [1, 3])
        self.assertEqual([len(table) for table in candidates_of(from_end(3))[1:3]], [1, 4])

    def test_what_has_been_pointed_at_does_not_count(self):
        # where the entries go later has very many states, but each of them has been a record long since
        truths = (((True,), (False,), (False,)),)
        for hands in (3, 4, 6):
            reader = turning_hands(hands)
            self.assertEqual(hands_needed(reader), hands)
            self.assertEqual(records_of(reader), (3, ((0, 0, 0),), ((0, 0, 0),), truths))
        for word in words(3, 5):
            self.assertEqual(slow_records(turning_hands(3), word), slow_picks(records_of(turning_hands(3)), word))
        self.refuses(TooGreat, {"most": 64}, candidates_of, turning_hands(6))

    def test_errors(self):
        for function in (records_of, candidates_of):
            self.refuses_readers(function)


if __name__ == "__main__":
    unittest.main()
