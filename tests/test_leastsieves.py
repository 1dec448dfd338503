"""[14], [35], [36]: least sieves, where sieves part, sieves put together."""

import unittest

from pointingreads.combined import backwards, both, but, either, just_one, opposite, sieve_of_marks
from pointingreads.errors import BadMark, BadSieve, BadSorts, TooGreat
from pointingreads.leastsieves import are_alike_sieves, least_sieve, picks_parted
from pointingreads.sieves import is_sieve
from tests.helpers import (
    NO_INTEGERS, OTHERS, Case, chain_of, chance, chance_sieve, cycle_of, sieve_by, slow_picks, words)


def numbered(sorts, signs, deep, join):
    """Classes of words by their signs, in the order of [29], and their table."""
    order = [()]
    numbers = {signs(()): 0}
    table = []
    while len(table) < len(order):
        row = []
        for mark in range(sorts):
            word = join(order[len(table)], mark)
            if signs(word) not in numbers:
                numbers[signs(word)] = len(order)
                order.append(word)
            row.append(numbers[signs(word)])
        table.append(tuple(row))
    return order, tuple(table)


def slow_least(sieve, deep):
    """The least sieve by its definition, with words of a few marks around."""
    sorts = sieve[0]
    around = list(words(sorts, deep))
    known = {}

    def picks(word):
        if word not in known:
            known[word] = slow_picks(sieve, word)
        return known[word]

    def left_signs(ahead):
        return tuple(
            tuple(place - len(ahead) for place in picks(ahead + word) if place >= len(ahead))
            for word in around)

    def right_signs(behind):
        return tuple(
            tuple(place for place in picks(word + behind) if place < len(word)) for word in around)
    lefts, left_table = numbered(sorts, left_signs, deep, lambda word, mark: word + (mark,))
    rights, right_table = numbered(sorts, right_signs, deep, lambda word, mark: (mark,) + word)
    pick = tuple(
        tuple(tuple(len(one) in picks(one + (mark,) + two) for two in rights) for mark in range(sorts))
        for one in lefts)
    return (sorts, left_table, right_table, pick)


def padded(rng, sieve):
    """A sieve that picks alike, with its states mixed and some of them double."""
    sorts, left, right, pick = sieve

    def doubled(table):
        many = len(table)
        names = list(range(2 * many))
        tail = names[1:]
        rng.shuffle(tail)
        names = [0] + tail
        old = {name: number % many for number, name in enumerate(names)}
        new = [[name for name in names if old[name] == number] for number in range(many)]
        return old, tuple(
            tuple(rng.choice(new[table[old[name]][mark]]) for mark in range(sorts))
            for name in range(2 * many))
    old_left, new_left = doubled(left)
    old_right, new_right = doubled(right)
    return (sorts, new_left, new_right, tuple(
        tuple(
            tuple(pick[old_left[one]][mark][old_right[two]] for two in range(len(new_right)))
            for mark in range(sorts))
        for one in range(len(new_left))))


class LeastSieveTest(Case):
    def test_by_the_definition(self):
        rng = chance(91)
        for _ in range(60):
            sieve = chance_sieve(rng, 2, rng.randint(1, 3), rng.randint(1, 3), rng.choice([0.2, 0.5]))
            self.assertEqual(least_sieve(sieve), slow_least(sieve, 5))
        for _ in range(20):
            sieve = chance_sieve(rng, 1, rng.randint(1, 5), rng.randint(1, 5))
            self.assertEqual(least_sieve(sieve), slow_least(sieve, 12))

    def test_one_for_all_that_pick_alike(self):
        rng = chance(92)
        for _ in range(80):
            sieve = chance_sieve(rng, rng.randint(1, 4), rng.randint(1, 12), rng.randint(1, 12), 0.3)
            least = least_sieve(sieve)
            other = padded(rng, sieve)
            self.assertTrue(is_sieve(least) and is_sieve(other))
            self.assertEqual(least_sieve(other), least)
            self.assertEqual(least_sieve(least), least)
            self.assertIs(are_alike_sieves(sieve, other), True)
            self.assertIsNone(picks_parted(sieve, other))
            for word in words(sieve[0], 3):
                self.assertEqual(slow_picks(least, word), slow_picks(sieve, word))

    def test_nothing_and_all(self):
        rng = chance(93)
        for sorts in (1, 2, 3, 4):
            for truth in (True, False):
                table = chance_sieve(rng, sorts, 64, 64)
                sieve = sieve_by(sorts, table[1], table[2], lambda left, mark, right: truth)
                only = ((0,) * sorts,)
                self.assertEqual(least_sieve(sieve), (sorts, only, only, (((truth,),) * sorts,)))

    def test_states_that_are_not_met(self):
        sieve = sieve_by(1, ((0,), (1,)), ((0,), (0,)), lambda left, mark, right: left == 1 or right == 1)
        self.assertEqual(least_sieve(sieve), (1, ((0,),), ((0,),), (((False,),),)))

    def test_sixty_four_states(self):
        sieve = sieve_by(2, cycle_of(2, 64, (0,)), cycle_of(2, 64, (1,)), lambda left, mark, right: left == right)
        least = least_sieve(sieve)
        self.assertEqual((len(least[1]), len(least[2])), (64, 64))


class PartedTest(Case):
    def test_least_rows(self):
        rng = chance(94)
        met = {}
        for number in range(250):
            sorts = rng.randint(1, 3)
            sieve = chance_sieve(rng, sorts, rng.randint(1, 4), rng.randint(1, 4), rng.choice([0.1, 0.5]))
            other = padded(rng, sieve)
            left, mark, right = rng.randrange(len(other[1])), rng.randrange(sorts), rng.randrange(len(other[2]))
            row = list(other[3][left][mark])
            row[right] = not row[right]
            picks = list(map(list, other[3]))
            picks[left][mark] = tuple(row)
            other = other[:3] + (tuple(map(tuple, picks)),)
            deep = {1: 9, 2: 7, 3: 4}[sorts]
            told = None
            for word in words(sorts, deep):
                unlike = sorted(set(slow_picks(sieve, word)) ^ set(slow_picks(other, word)))
                if unlike:
                    told = (word, unlike[0])
                    break
            found = picks_parted(sieve, other)
            self.assertIs(are_alike_sieves(sieve, other), found is None)
            if told is not None or found is None:
                self.assertEqual(found, told)
            else:
                self.assertGreater(len(found[0]), deep)
                unlike = sorted(set(slow_picks(sieve, found[0])) ^ set(slow_picks(other, found[0])))
                self.assertEqual(found[1], unlike[0])
            met[None if found is None else len(found[0])] = True
        self.assertTrue({None, 1, 2, 3, 4} <= set(met))

    def test_a_far_difference(self):
        chain = chain_of(2, 64)
        one = sieve_by(2, chain, chain, lambda left, mark, right: (left, mark, right) == (63, 1, 63))
        two = sieve_by(2, chain, chain, lambda left, mark, right: False)
        self.assertEqual(picks_parted(one, two), ((0,) * 63 + (1,) + (0,) * 63, 63))
        self.assertIs(are_alike_sieves(two, one), False)

    def test_errors(self):
        one, two = sieve_of_marks(2, (0,)), sieve_of_marks(3, (0,))
        for function in (are_alike_sieves, picks_parted, both, either, but, just_one):
            self.refuses(BadSieve, {"word": "form"}, function, None, 3)
            self.refuses(BadSieve, {"word": "form"}, function, one, 3)
            self.refuses(BadSieve, {"word": "left"}, function, (3, ((1, 0, 0),)) + two[2:], None)
            self.refuses(BadSieve, {"word": "left"}, function, (3, ((1, 0, 0),)) + two[2:], two)
            self.refuses(BadSieve, {"word": "left"}, function, one, (3, ((1, 0, 0),)) + two[2:])
            self.refuses(BadSorts, {"value": 3}, function, one, two)
            self.refuses(BadSorts, {"value": 2}, function, two, one)
        for function in (least_sieve, opposite, backwards):
            self.refuses(BadSieve, {"word": "form"}, function, ())
            self.refuses(BadSieve, {"word": "right"}, function, one[:2] + (((1, 0),), one[3]))


class CombinedTest(Case):
    def test_what_is_picked(self):
        rng = chance(95)
        for _ in range(80):
            sorts = rng.randint(1, 3)
            one, two = (chance_sieve(rng, sorts, rng.randint(1, 3), rng.randint(1, 3)) for _ in range(2))
            told = {
                both: lambda ones, twos: ones & twos, either: lambda ones, twos: ones | twos,
                but: lambda ones, twos: ones - twos, just_one: lambda ones, twos: ones ^ twos}
            for function, mixed in told.items():
                found = function(one, two)
                self.assertEqual(least_sieve(found), found)
                self.assertEqual(found[0], sorts)
                for word in words(sorts, 4):
                    picks = mixed(set(slow_picks(one, word)), set(slow_picks(two, word)))
                    self.assertEqual(set(slow_picks(found, word)), picks)
            self.assertEqual(least_sieve(opposite(one)), opposite(one))
            self.assertEqual(least_sieve(backwards(one)), backwards(one))
            self.assertEqual(opposite(opposite(one)), least_sieve(one))
            self.assertEqual(backwards(backwards(one)), least_sieve(one))
            for word in words(sorts, 4):
                picks = slow_picks(one, word)
                rest = tuple(place for place in range(len(word)) if place not in picks)
                self.assertEqual(slow_picks(opposite(one), word), rest)
                turned = slow_picks(one, word[::-1])
                self.assertEqual(
                    slow_picks(backwards(one), word), tuple(len(word) - 1 - at for at in turned[::-1]))

    def test_sixty_four_and_sixty_five_states(self):
        def counting(many, mark, turned):
            table, only = cycle_of(2, many, (mark,)), ((0, 0),)
            tables = (only, table) if turned else (table, only)
            return sieve_by(2, tables[0], tables[1], lambda left, mark, right: left + right == 0)
        for turned in (False, True):
            for function in (both, either, but, just_one):
                found = function(counting(8, 0, turned), counting(8, 1, turned))
                self.assertEqual(max(len(found[1]), len(found[2])), 64)
                self.refuses(
                    TooGreat, {"most": 64}, function, counting(5, 0, turned), counting(13, 1, turned))
            # what is told may be small, however great what is put together
            great, other = counting(64, 0, turned), counting(63, 1, turned)
            self.assertEqual(len(just_one(great, great)[1]), 1)
            self.assertEqual(len(but(great, great)[1]), 1)
            self.assertEqual(both(great, great), least_sieve(great))
            self.refuses(TooGreat, {"most": 64}, both, great, other)

    def test_marks(self):
        for sorts in (1, 2, 3, 4):
            for marks in [()] + list(words(sorts, 4, 1)):
                found = sieve_of_marks(sorts, marks)
                self.assertEqual(least_sieve(found), found)
                word = tuple(range(sorts)) * 2
                self.assertEqual(
                    slow_picks(found, word), tuple(at for at, mark in enumerate(word) if mark in marks))

    def test_mark_errors(self):
        for sorts in NO_INTEGERS + (0, 5, -1):
            self.refuses(BadSorts, {"value": sorts}, sieve_of_marks, sorts, None)
        for marks in OTHERS + (1, (0,) * 5, (None,) * 5, [0]):
            self.refuses(BadMark, {"mark": marks}, sieve_of_marks, 2, marks)
        for mark in NO_INTEGERS + (-1, 2):
            self.refuses(BadMark, {"mark": mark}, sieve_of_marks, 2, (0, 1, mark, None))


if __name__ == "__main__":
    unittest.main()
