"""All small readers, and how many rows of a length there are."""

from itertools import permutations

from pointingreads.checks import MOST_TIMES, is_whole
from pointingreads.errors import BadNumber, TooGreat
from pointingreads.folding import folded
from pointingreads.readers import need_reader

MOST_COUNTED = 40
MOST_HIT = 100


def all_rows(choices):
    """All tuples with one of each of some lists of choices."""
    found = [()]
    for row in choices:
        found = [told + (choice,) for told in found for choice in row]
    return found


def all_keeps(hands, many):
    """All tuples that tell what so many hands may keep of so many."""
    return list(permutations(range(-1, hands), many))


def all_steps(held, stand):
    """All steps that a stand may have."""
    return [(behind, keep) for behind, many in enumerate(held) for keep in all_keeps(held[stand], many)]


def readers_with(sorts, held):
    """All readers with these hands."""
    rows = [all_rows([all_steps(held, stand)] * sorts) for stand in range(len(held))]
    ends = all_rows([list(range(-1, many)) for many in held])
    return [(sorts, held, steps, points) for steps in all_rows(rows) for points in ends]


def all_readers(sorts, stands):
    """All least readers with at most so many stands, ascending."""
    if not is_whole(sorts, 1, 4):
        raise BadNumber(sorts)
    if not (is_whole(stands, 1, 3) and sorts * stands <= 4):
        raise BadNumber(stands)
    found = []
    for many in range(1, stands + 1):
        # each stand is met, and a step leads to one hand more at most
        for held in all_rows([[0]] + [list(range(many))] * (many - 1)):
            found.extend([reader for reader in readers_with(sorts, held) if folded(reader) == reader])
    return tuple(sorted(found))


def times_table(table, other, modulus):
    """Two square tables multiplied, modulo modulus."""
    columns = [[row[at] for row in other] for at in range(len(other))]
    return [
        [sum([one * two for one, two in zip(row, column)]) % modulus for column in columns]
        for row in table
    ]


def row_counts(reader, number, modulus):
    """For each stand how many rows of number entries lead there, modulo modulus."""
    many = len(reader[1])
    # for each stand behind a step how often it comes from each stand
    table = [[0] * many for _ in range(many)]
    for stand, row in enumerate(reader[2]):
        for behind, _ in row:
            table[behind][stand] += 1
    counts = [1 % modulus] + [0] * (many - 1)
    while number > 0:
        if number & 1 == 1:
            counts = [sum([one * two for one, two in zip(row, counts)]) % modulus for row in table]
        number = number >> 1
        if number > 0:
            table = times_table(table, table, modulus)
    return tuple(counts)


def need_counted(reader, number, modulus):
    """Refuses what rows can't be counted by."""
    need_reader(reader)
    if not is_whole(number, 0, MOST_TIMES):
        raise BadNumber(number)
    if not is_whole(modulus, 1, MOST_TIMES):
        raise BadNumber(modulus)
    if len(reader[1]) > MOST_COUNTED:
        raise TooGreat(MOST_COUNTED)


def rows_to(reader, number, modulus):
    """For each stand how many rows of number entries lead there, modulo modulus."""
    need_counted(reader, number, modulus)
    return row_counts(reader, number, modulus)


def rows_none(reader, number, modulus):
    """How many rows of number entries have no point, modulo modulus."""
    need_counted(reader, number, modulus)
    counts = row_counts(reader, number, modulus)
    return sum([count for count, hand in zip(counts, reader[3]) if hand < 0]) % modulus


def words_pointing(reader, after):
    """For each stand and hand how many words, one mark longer, make the reader point at it.

    after tells the same for the shorter ones.
    """
    found = []
    for stand, row in enumerate(reader[2]):
        counts = [0] * reader[1][stand]
        for behind, keep in row:
            for hand, old in enumerate(keep):
                if old >= 0:
                    counts[old] += after[behind][hand]
        found.append(counts)
    return found


def new_hits(reader, counts, after):
    """In how many rows the entry behind counted rows is pointed at behind all words that after tells."""
    found = 0
    for count, row in zip(counts, reader[2]):
        for behind, keep in row:
            if -1 in keep:
                found += count * after[behind][keep.index(-1)]
    return found


def next_counts(reader, counts):
    """How many rows, one entry longer, lead to each stand."""
    found = [0] * len(counts)
    for count, row in zip(counts, reader[2]):
        for behind, _ in row:
            found[behind] += count
    return found


def places_hit(reader, number):
    """For each place how many rows of number entries have it as point."""
    need_reader(reader)
    if not is_whole(number, 0, MOST_HIT):
        raise BadNumber(number)
    pointing = [[
        [1 if hand == pointed else 0 for hand in range(many)]
        for many, pointed in zip(reader[1], reader[3])
    ]]
    for _ in range(number):
        pointing.append(words_pointing(reader, pointing[-1]))
    counts = [1] + [0] * (len(reader[1]) - 1)
    found = []
    for place in range(number):
        found.append(new_hits(reader, counts, pointing[number - 1 - place]))
        counts = next_counts(reader, counts)
    return tuple(found)
