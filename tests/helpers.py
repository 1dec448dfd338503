"""What the tests share: slow and plain ways to the same answers, and chance things to ask."""

import itertools
import random
import unittest

GREAT = 10 ** 30


class Odd:
    """A value of no kind that the document knows."""

    def __repr__(self):
        return "odd"


ODD = Odd()
# values that are neither a tuple nor an integer
OTHERS = (None, True, False, "0", "", b"0", [], [0], {}, {0: 0}, ODD, int, (lambda: 0))
# values that are no integer; tuples among them
NO_INTEGERS = OTHERS + ((), (0,), ((0,), 1))


def chance(seed):
    return random.Random(seed)


def marks_of(row):
    found = []
    for marks, times in row:
        found.extend(marks * times)
    return tuple(found)


def words(sorts, most, least=0):
    for many in range(least, most + 1):
        yield from itertools.product(range(sorts), repeat=many)


def as_row(word):
    return tuple((tuple(word[at:at + 60]), 1) for at in range(0, len(word), 60))


def chance_word(rng, sorts, most):
    return tuple(rng.randrange(sorts) for _ in range(rng.randint(0, most)))


def chance_row(rng, sorts, blocks, marks, times):
    return tuple(
        (tuple(rng.randrange(sorts) for _ in range(rng.randint(1, marks))), rng.randint(1, times))
        for _ in range(rng.randint(0, blocks)))


def split_row(rng, row):
    """The same row written in another way, with at most 60 blocks."""
    found = []
    for marks, times in row:
        if times > 1 and len(found) + 2 * len(row) < 60:
            first = rng.randint(1, times - 1)
            found.extend([(marks, first), (marks, times - first)])
        else:
            found.append((marks, times))
    return tuple(found)


def chance_reader(rng, sorts, stands, hands):
    held = (0,) + tuple(rng.randint(0, hands) for _ in range(stands - 1))
    steps = []
    for stand in range(stands):
        row = []
        for _ in range(sorts):
            there = rng.choice([to for to in range(stands) if held[to] <= held[stand] + 1])
            row.append((there, tuple(rng.sample(range(-1, held[stand]), held[there]))))
        steps.append(tuple(row))
    return (sorts, held, tuple(steps), tuple(rng.randint(-1, many - 1) for many in held))


def chance_table(rng, sorts, states):
    return tuple(tuple(rng.randrange(states) for _ in range(sorts)) for _ in range(states))


def chance_sieve(rng, sorts, left, right, share=0.5):
    return (
        sorts, chance_table(rng, sorts, left), chance_table(rng, sorts, right),
        tuple(
            tuple(tuple(rng.random() < share for _ in range(right)) for _ in range(sorts))
            for _ in range(left)))


def slow_reading(reader, marks, stand=0, places=(), length=0):
    for mark in marks:
        there, keep = reader[2][stand][mark]
        places = tuple(length if hand == -1 else places[hand] for hand in keep)
        stand = there
        length += 1
    return stand, places


def slow_point(reader, marks):
    stand, places = slow_reading(reader, marks)
    hand = reader[3][stand]
    return None if hand == -1 else places[hand]


def slow_frame(sieve, marks, place):
    left = right = 0
    for mark in marks[:place]:
        left = sieve[1][left][mark]
    for mark in reversed(marks[place + 1:]):
        right = sieve[2][right][mark]
    return left, right


def slow_picks(sieve, marks):
    behind = [0]
    for mark in reversed(marks):
        behind.append(sieve[2][behind[-1]][mark])
    left = 0
    found = []
    for place, mark in enumerate(marks):
        if sieve[3][left][mark][behind[len(marks) - 1 - place]]:
            found.append(place)
        left = sieve[1][left][mark]
    return tuple(found)


def cycle_of(sorts, many, turning):
    """A table that counts the marks of turning, modulo many."""
    return tuple(
        tuple((state + 1) % many if mark in turning else state for mark in range(sorts))
        for state in range(many))


def chain_of(sorts, many):
    """A table that counts all marks up to many - 1."""
    return tuple((min(state + 1, many - 1),) * sorts for state in range(many))


def sieve_by(sorts, left, right, truth):
    """The sieve of two tables and truth(left state, mark, right state)."""
    return (sorts, left, right, tuple(
        tuple(tuple(bool(truth(one, mark, two)) for two in range(len(right))) for mark in range(sorts))
        for one in range(len(left))))


class Case(unittest.TestCase):
    def refuses(self, error, fields, function, *args, **named):
        """The call raises just this error, with these fields (a dict)."""
        with self.assertRaises(error) as caught:
            function(*args, **named)
        self.assertIs(caught.exception.__class__, error)
        told = dict(vars(caught.exception))
        self.assertEqual(told, fields)
        for name, value in fields.items():
            self.assertIs(told[name].__class__, value.__class__)
