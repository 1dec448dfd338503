"""Where a word stands in a row."""

from pointingreads.blocks import entry_count, marks_from
from pointingreads.checks import is_from
from pointingreads.errors import BadNumber, TooGreat
from pointingreads.rows import need_row, need_word

MOST_MARKS = 60


def few_marks(word):
    """Refuses a word that is too long to be looked for."""
    if len(word) > MOST_MARKS:
        raise TooGreat(MOST_MARKS)


def offsets_in(marks, word):
    """The offsets in a repeated block at which a word begins that lies in the block."""
    return [
        offset for offset in range(len(marks))
        if all([mark == marks[(offset + at) % len(marks)] for at, mark in enumerate(word)])
    ]


def below(offsets, many, limit):
    """How many places below the limit have one of the offsets, modulo many."""
    rounds, rest = divmod(limit, many)
    return rounds * len(offsets) + len([offset for offset in offsets if offset < rest])


def found_places(row, word):
    """For each block in turn where the word begins in it.

    A triple for each block: its marks' number and the offsets in them, how many places are
    of these, and the places behind, at which the word goes on beyond the block.
    """
    found = []
    ahead = 0
    for marks, times in row:
        size = len(marks) * times
        inner = max(size - len(word) + 1, 0)
        offsets = offsets_in(marks, word)
        tail = marks_from(row, ahead + inner, size - inner + len(word) - 1)
        outer = [
            ahead + inner + at for at in range(size - inner)
            if tail[at:at + len(word)] == word
        ]
        found.append((ahead, len(marks), offsets, below(offsets, len(marks), inner), outer))
        ahead += size
    return found


def times_found(row, word):
    """At how many places the word stands."""
    need_row(row)
    need_word(word)
    few_marks(word)
    if word == ():
        return entry_count(row) + 1
    return sum([inner + len(outer) for _, _, _, inner, outer in found_places(row, word)])


def found_at(row, word, number):
    """The place with this number at which the word stands, or None."""
    need_row(row)
    need_word(word)
    if not is_from(number, 0):
        raise BadNumber(number)
    few_marks(word)
    if word == ():
        return number if number <= entry_count(row) else None
    for ahead, many, offsets, inner, outer in found_places(row, word):
        if number < inner:
            rounds, rest = divmod(number, len(offsets))
            return ahead + rounds * many + offsets[rest]
        number -= inner
        if number < len(outer):
            return outer[number]
        number -= len(outer)
    return None
