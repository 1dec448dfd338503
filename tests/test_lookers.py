"""[38], [39]: lookers, the readers of them, the lookers of readers."""

import unittest

from pointingreads.climbs import most_picks, two_picks
from pointingreads.errors import BadReader, BadSieve, NotLooker, TooGreat
from pointingreads.least import least_reader
from pointingreads.leastsieves import least_sieve
from pointingreads.lookers import first_pick, is_looker, last_pick, looker_of, need_looker, reader_of
from pointingreads.named import NAMES, reader_named
from pointingreads.readers import is_reader
from tests.helpers import (
    Case, chain_of, chance, chance_reader, chance_sieve, cycle_of, sieve_by, slow_picks, slow_point, words)


def from_the_end(sorts, number):
    """Picks the entry with so many behind it."""
    return sieve_by(
        sorts, ((0,) * sorts,), chain_of(sorts, number + 2), lambda left, mark, right: right == number)


def two_waits(delay, round_of):
    """Behind a delay the first two marks 1, if a full number of rounds is behind them.

    A reader needs the delay and one stand, then a round with one entry, and behind the second
    mark 1 a round with one entry and all ways to hold two entries in one round.
    """
    left = tuple((state + 1, state + 1) for state in range(delay))
    left += ((delay, delay + 1), (delay + 1, delay + 2), (delay + 2, delay + 2))
    return sieve_by(
        2, left, cycle_of(2, round_of, (0, 1)),
        lambda state, mark, right: delay <= state <= delay + 1 and mark == 1 and right == 0)


def at_place(number):
    """The reader of the entry with so many ahead of it."""
    steps = tuple(((stand + 1, (-1,) if stand == number else ()),) for stand in range(number + 1))
    held = (0,) * (number + 1) + (1,)
    return (1, held, steps + (((number + 1, (0,)),),), (-1,) * (number + 1) + (0,))


def first_by_rounds(many):
    """The reader of the first entry in rows whose length less 1 is a multiple of many."""
    steps = (((1, (-1,)),),) + tuple(((1 + (stand + 1) % many, (0,)),) for stand in range(many))
    return (1, (0,) + (1,) * many, steps, (-1, 0) + (-1,) * (many - 1))


class LookersTest(Case):
    def test_chance_sieves(self):
        rng = chance(121)
        lookers = 0
        for _ in range(400):
            sorts = rng.randint(1, 3)
            sieve = chance_sieve(rng, sorts, rng.randint(1, 4), rng.randint(1, 4), rng.choice([0.05, 0.1, 0.4]))
            deep = {1: 10, 2: 7, 3: 4}[sorts]
            picks = {word: slow_picks(sieve, word) for word in words(sorts, deep)}
            first, last = first_pick(sieve), last_pick(sieve)
            for reader, number in ((first, 0), (last, -1)):
                self.assertIs(is_reader(reader), True)
                self.assertEqual(least_reader(reader), reader)
                for word, told in picks.items():
                    self.assertEqual(slow_point(reader, word), told[number] if told else None)
            looks = most_picks(sieve) in (0, 1)
            self.assertIs(is_looker(sieve), looks)
            if looks:
                lookers += 1
                self.assertIs(need_looker(sieve), sieve)
                self.assertEqual(reader_of(sieve), first)
                self.assertEqual(last, first)
                self.assertEqual(looker_of(first), least_sieve(sieve))
            else:
                word = two_picks(sieve)
                self.refuses(NotLooker, {"row": word}, need_looker, sieve)
                self.refuses(NotLooker, {"row": word}, reader_of, sieve)
        self.assertGreater(lookers, 60)

    def test_lookers_of_chance_readers(self):
        rng = chance(122)
        small = 0
        for _ in range(150):
            sorts = rng.randint(1, 2)
            reader = chance_reader(rng, sorts, rng.randint(1, 4), rng.randint(0, 2))
            try:
                sieve = looker_of(reader)
            except TooGreat as error:
                self.assertEqual(error.most, 64)
                continue
            small += 1
            self.assertEqual(least_sieve(sieve), sieve)
            self.assertIs(is_looker(sieve), True)
            for word in words(sorts, 6):
                place = slow_point(reader, word)
                self.assertEqual(slow_picks(sieve, word), () if place is None else (place,))
            self.assertEqual(reader_of(sieve), least_reader(reader))
        self.assertGreater(small, 100)

    def test_named_readers(self):
        for sorts in (1, 2, 3, 4):
            for name in NAMES:
                reader = reader_named(name, sorts)
                sieve = looker_of(reader)
                self.assertEqual(reader_of(sieve), least_reader(reader))
                self.assertEqual(first_pick(sieve), last_pick(sieve))

    def test_what_lies_behind_the_first_pick_does_not_count(self):
        # behind the first mark 1 the sieve goes on counting, but the reader needs one stand more
        left = tuple((state, min(state + 1, 63)) for state in range(64))
        sieve = sieve_by(2, left, ((0, 0),), lambda state, mark, right: mark == 1 and state != 40)
        self.assertEqual(first_pick(sieve), (2, (0, 1), (((0, ()), (1, (-1,))), ((1, (0,)), (1, (0,)))), (-1, 0)))
        self.assertIs(is_looker(sieve), False)
        # what is far ahead of the last pick does not count, either
        sieve = sieve_by(
            2, ((0, 0),), tuple((state, min(state + 1, 63)) for state in range(64)),
            lambda left, mark, right: mark == 1 and right != 40)
        self.assertEqual(last_pick(sieve), (2, (0, 1), (((0, ()), (1, (-1,))), ((1, (0,)), (1, (-1,)))), (-1, 0)))

    def test_eight_and_nine_hands(self):
        for sorts in (1, 2):
            for number in (0, 6, 7):
                found = reader_of(from_the_end(sorts, number))
                self.assertEqual(found[1], tuple(range(number + 2)))
                self.assertEqual(least_reader(found), found)
            for number in (8, 62):
                for function in (reader_of, first_pick, last_pick):
                    self.refuses(TooGreat, {"most": 8}, function, from_the_end(sorts, number))

    def test_two_hundred_and_one_stands(self):
        for function, number in ((first_pick, 0), (last_pick, -1)):
            found = function(two_waits(10, 18))
            self.assertEqual(len(found[1]), 200)
            self.assertEqual(max(found[1]), 2)
            self.assertEqual(least_reader(found), found)
            for word in ((0,) * 10 + (1, 0, 1) + (0,) * 16, (1,) * 29, (1,) * 30, (0,) * 20 + (1,) * 37):
                picks = slow_picks(two_waits(10, 18), word)
                self.assertEqual(slow_point(found, word), picks[number] if picks else None)
            self.refuses(TooGreat, {"most": 200}, function, two_waits(11, 18))

    def test_stands_are_counted_ahead_of_hands(self):
        # the eleven last entries, each in as many ways as marks have been: too many of both
        right = chain_of(2, 13)
        sieve = sieve_by(2, chain_of(2, 2), right, lambda left, mark, right: mark == 1 and right == 11)
        for function in (reader_of, first_pick, last_pick):
            self.refuses(TooGreat, {"most": 200}, function, sieve)
        sieve = sieve_by(1, chain_of(1, 2), chain_of(1, 13), lambda left, mark, right: right == 11)
        self.refuses(TooGreat, {"most": 8}, reader_of, sieve)

    def test_sixty_four_and_sixty_five_states(self):
        found = looker_of(at_place(62))
        self.assertEqual((len(found[1]), len(found[2])), (64, 1))
        self.refuses(TooGreat, {"most": 64}, looker_of, at_place(63))
        found = looker_of(first_by_rounds(64))
        self.assertEqual((len(found[1]), len(found[2])), (2, 64))
        self.refuses(TooGreat, {"most": 64}, looker_of, first_by_rounds(65))

    def test_great_sieves(self):
        rng = chance(123)
        sieve = chance_sieve(rng, 4, 64, 64, 0.1)
        self.refuses(TooGreat, {"most": 200}, first_pick, sieve)
        self.refuses(TooGreat, {"most": 200}, last_pick, sieve)
        # a great sieve of few picks: all states count, but only the first entry is picked
        left = tuple((min(state + 1, 63),) * 4 for state in range(64))
        sieve = sieve_by(4, left, cycle_of(4, 64, (1,)), lambda left, mark, right: left == 0 and right == 7)
        found = reader_of(sieve)
        self.assertEqual(len(found[1]), 65)
        self.assertEqual(slow_point(found, (3,) + (1, 2) * 7), 0)
        self.assertIsNone(slow_point(found, (3,) + (1, 2) * 8))

    def test_errors(self):
        for function in (is_looker, need_looker, reader_of, first_pick, last_pick):
            self.refuses(BadSieve, {"word": "form"}, function, None)
            self.refuses(BadSieve, {"word": "left"}, function, (1, ((1,),), ((0,),), (((True,),),)))
        self.refuses(BadReader, {"word": "form", "stand": None}, looker_of, None)
        self.refuses(BadReader, {"word": "held", "stand": 0}, looker_of, (1, (1,), (((0, (0,)),),), (-1,)))
        # that a sieve is no looker comes ahead of the greatness of its reader
        sieve = sieve_by(2, ((0, 0),), chain_of(2, 64), lambda left, mark, right: mark == 1 and right > 60)
        self.refuses(NotLooker, {"row": (1, 1) + (0,) * 61}, reader_of, sieve)


if __name__ == "__main__":
    unittest.main()
