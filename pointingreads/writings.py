"""The ways to write a row as blocks."""

from pointingreads.blocks import all_marks
from pointingreads.errors import TooGreat
from pointingreads.rows import MOST_BLOCKS, need_row, need_short

MOST_MARKS = 60


def weight(row):
    """How many marks the blocks of the row have together."""
    need_row(row)
    return sum([len(marks) for marks, _ in row])


def times_alike(word, many):
    """For each place how often the next so many marks follow one another there."""
    size = len(word)
    alike = [0] * (size + 1)
    for at in range(size - many - 1, -1, -1):
        if word[at] == word[at + many]:
            alike[at] = alike[at + 1] + 1
    return [alike[at] // many + 1 for at in range(size - many + 1)]


def repeats(word):
    """For each place and each number of marks how often a block of them can be done there."""
    return [[]] + [times_alike(word, many) for many in range(1, min(MOST_MARKS, len(word)) + 1)]


def first_blocks(often, size, at):
    """The pairs (marks, times) of all blocks that can be the first one from a place on."""
    found = []
    for many in range(1, min(MOST_MARKS, size - at) + 1):
        for times in range(1, often[many][at] + 1):
            found.append((many, times))
    return found


def best_beginnings(word):
    """For each place (weight, blocks, marks, times) of the least writing from there on."""
    size = len(word)
    often = repeats(word)
    best = [(0, 0, 0, 0)] * (size + 1)
    for at in range(size - 1, -1, -1):
        choices = []
        for many, times in first_blocks(often, size, at):
            rest = best[at + many * times]
            choices.append((rest[0] + many, rest[1] + 1, many, times))
        # fewer marks from the same place are less, as Python compares tuples
        best[at] = min(choices)
    return best


def least_writing(row):
    """The least writing of a short row."""
    need_row(row)
    need_short(row)
    word = all_marks(row)
    best = best_beginnings(word)
    if best[0][1] > MOST_BLOCKS:
        raise TooGreat(MOST_BLOCKS)
    found = []
    at = 0
    while at < len(word):
        _, _, many, times = best[at]
        found.append((word[at:at + many], times))
        at += many * times
    return tuple(found)


def all_writings_number(row):
    """How many writings a short row has."""
    need_row(row)
    need_short(row)
    word = all_marks(row)
    often = repeats(word)
    ways = [0] * len(word) + [1]
    for at in range(len(word) - 1, -1, -1):
        blocks = first_blocks(often, len(word), at)
        ways[at] = sum([ways[at + many * times] for many, times in blocks])
    return ways[0]
