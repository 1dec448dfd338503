"""Parts of rows that have a period."""

from pointingreads.blocks import entry_count, first_parting, have_period, part_of
from pointingreads.checks import is_whole
from pointingreads.errors import BadNumber
from pointingreads.places import need_border
from pointingreads.rows import need_row

MOST_PERIOD = 60


def need_period(number):
    """Refuses what is no number of a period."""
    if not is_whole(number, 1, MOST_PERIOD):
        raise BadNumber(number)


def has_period(row, number):
    """Whether the whole row has the period."""
    need_row(row)
    need_period(number)
    return have_period(row, number)


def least_period(row):
    """The least period of the whole row, or None."""
    need_row(row)
    for number in range(1, MOST_PERIOD + 1):
        if have_period(row, number):
            return number
    return None


def stretch_end(row, place, number):
    """The greatest stop of a part from the place on that has the period."""
    need_row(row)
    need_border(row, place)
    need_period(number)
    size = entry_count(row)
    if place + number >= size:
        return size
    far = first_parting(part_of(row, place, size), part_of(row, place + number, size))
    return place + number + far


def shortened(row, number):
    """The row with fewer repetitions, as marks, and a gap for each block that lost some.

    A gap is (border, lost, goes_on): the place where entries are lost, how many, and
    whether a stretch goes on over all of them. What is left of a block on either side of
    the border is long enough to show each stretch within the block.
    """
    found = []
    gaps = []
    for marks, times in row:
        half = number // len(marks) + 2
        if times <= 2 * half:
            found.extend(marks * times)
        else:
            border = len(found) + half * len(marks)
            goes_on = all([mark == marks[(at + number) % len(marks)] for at, mark in enumerate(marks)])
            gaps.append((border, (times - 2 * half) * len(marks), goes_on))
            found.extend(marks * (2 * half))
    return found, gaps


def stretches(marks, number):
    """The longest possible parts of some marks that have the period, by their starts."""
    found = []
    start = 0
    for at in range(len(marks) - number):
        if marks[at] != marks[at + number]:
            found.append((start, at + number))
            start = at + 1
    found.append((start, len(marks)))
    return found


def longest_stretch(row, number):
    """The first of the longest parts of the row that have the period."""
    need_row(row)
    need_period(number)
    if entry_count(row) <= number:
        return (0, entry_count(row))
    marks, gaps = shortened(row, number)
    best = (0, 0)
    for start, stop in stretches(marks, number):
        ahead = sum([lost for border, lost, _ in gaps if border <= start])
        within = sum([lost for border, lost, goes_on in gaps if goes_on and start < border < stop])
        if stop - start + within > best[1] - best[0]:
            best = (start + ahead, stop + ahead + within)
    return best
