"""The entries with one mark, by their numbers."""

from pointingreads.blocks import part_of
from pointingreads.checks import is_from, is_whole
from pointingreads.errors import BadMark, BadNumber
from pointingreads.places import need_border
from pointingreads.rows import need_row


def need_mark(mark):
    """Refuses what is no mark."""
    if not is_whole(mark, 0, 3):
        raise BadMark(mark)


def need_number(number):
    """Refuses what is no number from 0 on."""
    if not is_from(number, 0):
        raise BadNumber(number)


def count_in(blocks, mark):
    """How many entries of the blocks have the mark."""
    return sum([marks.count(mark) * times for marks, times in blocks])


def mark_count(row, mark, place):
    """How many entries with the mark stand ahead of the place."""
    need_row(row)
    need_mark(mark)
    need_border(row, place)
    return count_in(part_of(row, 0, place), mark)


def mark_counts(row):
    """How many entries have each of the four marks."""
    need_row(row)
    return tuple([count_in(row, mark) for mark in range(4)])


def numbered_place(row, mark, number):
    """The place of the entry with the mark that has so many of them ahead, or None."""
    ahead = 0
    for marks, times in row:
        offsets = [offset for offset, other in enumerate(marks) if other == mark]
        if number < len(offsets) * times:
            rounds, rest = divmod(number, len(offsets))
            return ahead + rounds * len(marks) + offsets[rest]
        number -= len(offsets) * times
        ahead += len(marks) * times
    return None


def place_of(row, mark, number):
    """The place of the entry with this mark and number, or None."""
    need_row(row)
    need_mark(mark)
    need_number(number)
    return numbered_place(row, mark, number)


def place_from_end(row, mark, number):
    """The place of the entry with this mark and this number from the end, or None."""
    need_row(row)
    need_mark(mark)
    need_number(number)
    ahead = count_in(row, mark) - 1 - number
    if ahead < 0:
        return None
    return numbered_place(row, mark, ahead)
