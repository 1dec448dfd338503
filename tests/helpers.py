"""What the tests share: slow and plain ways to the same answers, and chance things to ask."""

import itertools
import random
import unittest

from pointingreads import errors
from pointingreads.least import hands_needed

GREAT = 10 ** 30


class Odd:
    """A value of no kind that the document knows."""

    def __repr__(self):
        return "odd"


ODD = Odd()
# values that are neither a tuple nor an integer
OTHERS = (None, True, False, "0", "", b"0", [], [0], {}, {0: 0}, ODD, int, (lambda: 0))
# values that are no integer; tuples among them
NO_INTEGERS = OTHERS + ((), (0,), ((0,), 1))


def chance(seed):
    return random.Random(seed)


def marks_of(row):
    found = []
    for marks, times in row:
        found.extend(marks * times)
    return tuple(found)


def words(sorts, most, least=0):
    for many in range(least, most + 1):
        yield from itertools.product(range(sorts), repeat=many)


def as_row(word):
    return tuple((tuple(word[at:at + 60]), 1) for at in range(0, len(word), 60))


def chance_word(rng, sorts, most):
    return tuple(rng.randrange(sorts) for _ in range(rng.randint(0, most)))


def chance_row(rng, sorts, blocks, marks, times):
    return tuple(
        (tuple(rng.randrange(sorts) for _ in range(rng.randint(1, marks))), rng.randint(1, times))
        for _ in range(rng.randint(0, blocks)))


def split_row(rng, row):
    """The same row written in another way, with at most 60 blocks."""
    found = []
    for marks, times in row:
        if times > 1 and len(found) + 2 * len(row) < 60:
            first = rng.randint(1, times - 1)
            found.extend([(marks, first), (marks, times - first)])
        else:
            found.append((marks, times))
    return tuple(found)


def chance_reader(rng, sorts, stands, hands):
    held = (0,) + tuple(rng.randint(0, hands) for _ in range(stands - 1))
    steps = []
    for stand in range(stands):
        row = []
        for _ in range(sorts):
            there = rng.choice([to for to in range(stands) if held[to] <= held[stand] + 1])
            row.append((there, tuple(rng.sample(range(-1, held[stand]), held[there]))))
        steps.append(tuple(row))
    return (sorts, held, tuple(steps), tuple(rng.randint(-1, many - 1) for many in held))


def holding_reader(rng, sorts, stands, hands):
    """A chance reader that keeps much of what it holds."""
    held = (0,) + tuple(rng.randint(1, hands) for _ in range(stands - 1))
    steps = []
    for stand in range(stands):
        row = []
        for _ in range(sorts):
            there = [to for to in range(stands) if held[to] <= held[stand] + 1]
            to = rng.choices(there, [(1 + held[to]) ** 3 for to in there])[0]
            keep = rng.sample(range(held[stand]), min(held[stand], held[to]))
            if len(keep) < held[to]:
                keep.append(-1)
            elif keep and rng.random() < 0.25:
                keep[0] = -1
            rng.shuffle(keep)
            row.append((to, tuple(keep)))
        steps.append(tuple(row))
    return (sorts, held, tuple(steps), tuple(rng.randint(-1, many - 1) for many in held))


def keen_reader(rng, sorts, stands, hands):
    """A chance reader, most often one that hands on more than one entry of a row."""
    for _ in range(20):
        reader = holding_reader(rng, sorts, rng.randint(2, stands), hands)
        if hands_needed(reader) > 1:
            return reader
    return chance_reader(rng, sorts, stands, hands)


def mixed(rng, reader):
    """A reader that is alike: its stands and hands are numbered in another way."""
    sorts, held, steps, points = reader
    order = [0] + rng.sample(range(1, len(held)), len(held) - 1)
    hands = [rng.sample(range(many), many) for many in held]
    told = []
    for stand in order:
        told.append(tuple(
            (order.index(to), tuple(
                -1 if keep[hand] < 0 else hands[stand].index(keep[hand]) for hand in hands[to]))
            for to, keep in steps[stand]))
    ends = tuple(-1 if points[stand] < 0 else hands[stand].index(points[stand]) for stand in order)
    return (sorts, tuple(held[stand] for stand in order), tuple(told), ends)


def chance_pair(rng, most_sorts, stands, hands):
    """Two readers with the same sorts; some are alike, some nearly so."""
    sorts = rng.randint(1, most_sorts)
    make = rng.choice((chance_reader, holding_reader))
    reader = make(rng, sorts, rng.randint(1, stands), rng.randint(1, hands))
    kind = rng.randrange(4)
    if kind == 0:
        return reader, mixed(rng, reader)
    if kind == 1:
        stand = rng.randrange(len(reader[1]))
        points = list(reader[3])
        points[stand] = rng.randint(-1, reader[1][stand] - 1)
        return reader, mixed(rng, reader[:3] + (tuple(points),))
    return reader, make(rng, sorts, rng.randint(1, stands), rng.randint(1, hands))


def chance_table(rng, sorts, states):
    return tuple(tuple(rng.randrange(states) for _ in range(sorts)) for _ in range(states))


def chance_sieve(rng, sorts, left, right, share=0.5):
    return (
        sorts, chance_table(rng, sorts, left), chance_table(rng, sorts, right),
        tuple(
            tuple(tuple(rng.random() < share for _ in range(right)) for _ in range(sorts))
            for _ in range(left)))


def slow_reading(reader, marks, stand=0, places=(), length=0):
    for mark in marks:
        there, keep = reader[2][stand][mark]
        places = tuple(length if hand == -1 else places[hand] for hand in keep)
        stand = there
        length += 1
    return stand, places


def slow_point(reader, marks):
    stand, places = slow_reading(reader, marks)
    hand = reader[3][stand]
    return None if hand == -1 else places[hand]


def slow_pattern(reader, other, marks):
    stand, places = slow_reading(reader, marks)
    other_stand, other_places = slow_reading(other, marks)
    return (stand, other_stand, tuple(
        (places.index(place) if place in places else -1,
         other_places.index(place) if place in other_places else -1)
        for place in sorted(set(places) | set(other_places))))


def slow_relation(reader, other, marks):
    place, other_place = slow_point(reader, marks), slow_point(other, marks)
    if place is None:
        return "none" if other_place is None else "second"
    if other_place is None:
        return "first"
    if place == other_place:
        return "same"
    return "ahead" if place < other_place else "behind"


def slow_view(reader, other, marks):
    places = (slow_point(reader, marks), slow_point(other, marks))
    return (slow_relation(reader, other, marks),) + tuple(
        None if place is None else marks[place] for place in places)


def slow_behaviour(reader, marks):
    """The behaviour of a word, and the places of the entries that come."""
    numbers = {}
    found = []
    for stand, many in enumerate(reader[1]):
        behind, places = slow_reading(reader, marks, stand, tuple(-1 - hand for hand in range(many)))
        hold = []
        for place in places:
            if place < 0:
                hold.append(-1 - place)
            else:
                hold.append(-1 - numbers.setdefault(place, len(numbers)))
        found.append((behind, tuple(hold)))
    return tuple(found), tuple(numbers)


def all_changes(kind, length, sorts):
    """All changes of one kind that a row of a length has."""
    places = range(length + {"lost": 0, "put": 1, "turned": -1, "marked": 0}[kind])
    if kind in ("lost", "turned"):
        return [(kind, place) for place in places]
    return [(kind, place, mark) for place in places for mark in range(sorts)]


def slow_changed(marks, change):
    """The entries behind a change, as pairs of a name and a mark, and what those of the change are called."""
    entries = list(enumerate(marks))
    kind, place = change[0], change[1]
    if kind == "lost":
        return entries[:place] + entries[place + 1:], {place: "it"}
    if kind == "put":
        return entries[:place] + [("new", change[2])] + entries[place:], {"new": "it"}
    if kind == "marked":
        return entries[:place] + [(place, change[2])] + entries[place + 1:], {place: "it"}
    turned = [entries[place + 1], entries[place]]
    return entries[:place] + turned + entries[place + 2:], {place: "left", place + 1: "right"}


def slow_outcome(reader, marks, change):
    entries, names = slow_changed(marks, change)
    before = slow_point(reader, marks)
    after = slow_point(reader, tuple(mark for _, mark in entries))
    after = None if after is None else entries[after][0]
    told = "none" if after is None else names.get(after, "same" if after == before else "other")
    return ("none" if before is None else names.get(before, "other"), told)


def seen_point(reader, ahead, marks, behind):
    """In which of three words the point is, and where there."""
    place = slow_point(reader, ahead + marks + behind)
    if place is None:
        return None
    if place < len(ahead):
        return ("ahead", place)
    place -= len(ahead)
    return ("row", place) if place < len(marks) else ("behind", place - len(marks))


def slow_frame(sieve, marks, place):
    left = right = 0
    for mark in marks[:place]:
        left = sieve[1][left][mark]
    for mark in reversed(marks[place + 1:]):
        right = sieve[2][right][mark]
    return left, right


def slow_picks(sieve, marks):
    behind = [0]
    for mark in reversed(marks):
        behind.append(sieve[2][behind[-1]][mark])
    left = 0
    found = []
    for place, mark in enumerate(marks):
        if sieve[3][left][mark][behind[len(marks) - 1 - place]]:
            found.append(place)
        left = sieve[1][left][mark]
    return tuple(found)


def cycle_of(sorts, many, turning):
    """A table that counts the marks of turning, modulo many."""
    return tuple(
        tuple((state + 1) % many if mark in turning else state for mark in range(sorts))
        for state in range(many))


def chain_of(sorts, many):
    """A table that counts all marks up to many - 1."""
    return tuple((min(state + 1, many - 1),) * sorts for state in range(many))


def sieve_by(sorts, left, right, truth):
    """The sieve of two tables and truth(left state, mark, right state)."""
    return (sorts, left, right, tuple(
        tuple(tuple(bool(truth(one, mark, two)) for two in range(len(right))) for mark in range(sorts))
        for one in range(len(left))))


def slow_such(condition, marks, at):
    """Whether the entry at a place is such as the condition says, word for word as the document has it."""
    kind = condition[0]
    if kind == "is":
        return marks[at] in condition[1]
    if kind == "not":
        return not slow_such(condition[1], marks, at)
    if kind == "and":
        return slow_such(condition[1], marks, at) and slow_such(condition[2], marks, at)
    if kind == "or":
        return slow_such(condition[1], marks, at) or slow_such(condition[2], marks, at)
    ahead = condition[1] == "ahead"
    such = [
        place for place in range(len(marks))
        if (place < at if ahead else place > at) and slow_such(condition[2], marks, place)]
    if kind == "next":
        return (at - 1 if ahead else at + 1) in such
    if kind == "some":
        return len(such) >= condition[3]
    if kind == "rest":
        return len(such) % condition[3] == condition[4]
    return any(
        all(slow_such(condition[3], marks, place) for place in range(min(at, end) + 1, max(at, end)))
        for end in such)


def slow_all_such(condition, marks):
    return tuple(at for at in range(len(marks)) if slow_such(condition, marks, at))


def slow_rule(rule, marks):
    kind = rule[0]
    if kind in ("pick", "only"):
        such = slow_all_such(rule[-1], marks)
        if kind == "only":
            return such[0] if len(such) == 1 else None
        such = such if rule[1] == "front" else such[::-1]
        return such[rule[2] - 1] if rule[2] <= len(such) else None
    if kind == "else":
        place = slow_rule(rule[1], marks)
        return slow_rule(rule[2], marks) if place is None else place
    if kind == "if":
        return slow_rule(rule[3] if slow_rule(rule[1], marks) is None else rule[2], marks)
    at = slow_rule(rule[2], marks)
    if at is None:
        return None
    if rule[1] == "ahead":
        return slow_rule(rule[3], marks[:at])
    place = slow_rule(rule[3], marks[at + 1:])
    return None if place is None else at + 1 + place


def chance_condition(rng, deep, most=3):
    kind = rng.choice(("is", "not", "and", "or", "next", "some", "rest", "until")) if deep else "is"
    if kind == "is":
        return ("is", tuple(sorted(rng.sample(range(4), rng.choice((0, 1, 1, 1, 2, 2, 3, 4))))))
    side = () if kind in ("not", "and", "or") else (rng.choice(("ahead", "behind")),)
    many = 2 if kind in ("and", "or", "until") else 1
    value = (kind,) + side + tuple(chance_condition(rng, deep - 1, most) for _ in range(many))
    if kind == "some":
        return value + (rng.randint(1, most),)
    if kind == "rest":
        modulus = rng.randint(2, max(2, most))
        return value + (modulus, rng.randrange(modulus))
    return value


def chance_rule(rng, deep, within=2, most=3):
    kind = rng.choice(("pick", "only", "else", "part", "if")) if deep else rng.choice(("pick", "only"))
    if kind == "pick":
        return (
            "pick", rng.choice(("front", "end")), rng.randint(1, most), chance_condition(rng, within, most))
    if kind == "only":
        return ("only", chance_condition(rng, within, most))
    side = (rng.choice(("ahead", "behind")),) if kind == "part" else ()
    rules = tuple(chance_rule(rng, deep - 1, within, most) for _ in range(3 if kind == "if" else 2))
    return (kind,) + side + rules


# readers of two marks and of one, and spoilt ones with their faults
FIRST = (2, (0, 1), (((1, (-1,)), (0, ())), ((1, (0,)), (1, (0,)))), (-1, 0))
LAST = (2, (0, 1), (((1, (-1,)), (1, (-1,))), ((1, (-1,)), (1, (-1,)))), (-1, 0))
ONE_SORT = (1, (0, 1), (((1, (-1,)),), ((1, (-1,)),)), (-1, 0))
SPOILT = (
    (None, ("form", None)), ([], ("form", None)), ((True,) + FIRST[1:], ("form", None)),
    ((2, (1, 1)) + FIRST[2:], ("held", 0)), ((2, (False, 1)) + FIRST[2:], ("held", 0)),
    (FIRST[:2] + (FIRST[2][:1] + (((1, (1,)), (1, (0,))),),) + FIRST[3:], ("steps", 1)),
    (FIRST[:3] + ((-1, 1),), ("points", 1)), (FIRST[:3] + ((-1, False),), ("points", 1)))
# values that are no row of two marks, and the places of their errors
NO_ROWS = (
    (None, None), ([], None), ((((0,), 1),) * 61, None), ((((0,), 1), ((4,), 1)), 1), ((((0,), True),), 0),
    ((((False,), 1),), 0), (((), ((0,), 1)), 0), ((((0, 1), 2), ((0, 2), 1)), 1))


class Case(unittest.TestCase):
    def refuses_readers(self, function, *rest):
        """What is no reader is refused, whatever stands behind it."""
        for value, (word, stand) in SPOILT:
            for others in (rest, (None,) * len(rest)):
                self.refuses(errors.BadReader, {"word": word, "stand": stand}, function, value, *others)

    def refuses_two(self, function, *rest):
        """What is no pair of readers with the same sorts is refused, whatever stands behind them."""
        for others in (rest, (None,) * len(rest)):
            for value, (word, stand) in SPOILT:
                fields = {"word": word, "stand": stand}
                self.refuses(errors.BadReader, fields, function, value, LAST, *others)
                self.refuses(errors.BadReader, fields, function, value, ONE_SORT, *others)
                self.refuses(errors.BadReader, fields, function, value, None, *others)
                self.refuses(errors.BadReader, fields, function, FIRST, value, *others)
            self.refuses(errors.BadSorts, {"value": 1}, function, FIRST, ONE_SORT, *others)
            self.refuses(errors.BadSorts, {"value": 2}, function, ONE_SORT, FIRST, *others)

    def refuses_fit(self, function, *rest):
        """What is no reader and what is no row for it is refused, whatever stands behind."""
        self.refuses_readers(function, (), *rest)
        self.refuses_rows(function, FIRST, behind=rest)

    def refuses_rows(self, function, *ahead, behind=()):
        """What is no row of two marks is refused, whatever stands behind it."""
        for value, place in NO_ROWS:
            for others in (behind, (None,) * len(behind)):
                self.refuses(errors.BadRow, {"place": place}, function, *ahead, value, *others)

    def refuses(self, error, fields, function, *args, **named):
        """The call raises just this error, with these fields (a dict)."""
        with self.assertRaises(error) as caught:
            function(*args, **named)
        self.assertIs(caught.exception.__class__, error)
        told = dict(vars(caught.exception))
        self.assertEqual(told, fields)
        for name, value in fields.items():
            self.assertIs(told[name].__class__, value.__class__)
