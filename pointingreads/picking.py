"""What sieves pick in rows."""

from pointingreads.blocks import all_marks, entry_count, entry_mark, from_the_end, part_of
from pointingreads.checks import are_whole, is_from, is_tuple, is_whole
from pointingreads.counting import pick_place, picks_in, picks_total
from pointingreads.errors import BadNumber, BadPaper
from pointingreads.measures import joined, measure_of
from pointingreads.orbits import state_behind_blocks
from pointingreads.places import need_border, need_entry
from pointingreads.rows import need_short
from pointingreads.sieves import need_row_for, need_sieve

MOST_NUMBER = 10 ** 40


def picked(sieve, row):
    """The places of the picks of a short row."""
    need_row_for(sieve, row)
    need_short(row)
    return tuple(picks_in(sieve, all_marks(row), 0, 0))


def right_state(sieve, row, place):
    """The right state behind the entries from the place on."""
    behind = part_of(row, place, entry_count(row))
    return state_behind_blocks(sieve[2], 0, from_the_end(behind))


def frame_at(sieve, row, place):
    """The frame of the entry at a place."""
    left = state_behind_blocks(sieve[1], 0, part_of(row, 0, place))
    return (left, right_state(sieve, row, place + 1))


def frame(sieve, row, place):
    """The frame of the entry at the place."""
    need_row_for(sieve, row)
    need_entry(row, place)
    return frame_at(sieve, row, place)


def is_picked(sieve, row, place):
    """Whether the entry at the place is picked."""
    need_row_for(sieve, row)
    need_entry(row, place)
    left, right = frame_at(sieve, row, place)
    return sieve[3][left][entry_mark(row, place)][right]


def pick_number(sieve, row):
    """How many picks the row has."""
    need_row_for(sieve, row)
    return picks_total(sieve, row, 0)


def picks_ahead(sieve, row, place):
    """How many picks have a lesser place."""
    need_row_for(sieve, row)
    need_border(row, place)
    return picks_total(sieve, part_of(row, 0, place), right_state(sieve, row, place))


def pick_at(sieve, row, number):
    """The place of the pick with this number, or None."""
    need_row_for(sieve, row)
    if not is_whole(number, 0, MOST_NUMBER):
        raise BadNumber(number)
    return pick_place(sieve, row, number)


def measure(sieve, row):
    """The measure of the row."""
    need_row_for(sieve, row)
    return measure_of(sieve, row)


def are_counts(value, many):
    """Whether a value is a tuple of so many integers from 0 on."""
    return is_tuple(value, many, many) and all([is_from(count, 0) for count in value])


def is_measure(sieve, value):
    """Whether any value has the form of a measure for the sieve."""
    if not is_tuple(value, 3, 3):
        return False
    lefts, rights, counts = value
    left = len(sieve[1])
    right = len(sieve[2])
    if not (is_tuple(lefts, left, left) and are_whole(lefts, 0, left - 1)):
        return False
    if not (is_tuple(rights, right, right) and are_whole(rights, 0, right - 1)):
        return False
    return is_tuple(counts, left, left) and all([are_counts(row, right) for row in counts])


def measures_joined(sieve, first, second):
    """The measure of a row with the first measure and one with the second behind it."""
    need_sieve(sieve)
    for value in (first, second):
        if not is_measure(sieve, value):
            raise BadPaper("measure")
    return joined(first, second)
