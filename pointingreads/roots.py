"""Rows that are repeats of shorter ones."""

from math import gcd

from pointingreads.blocks import entry_count, first_parting, have_period
from pointingreads.rows import need_row

LONGEST_ROOT = 60
MOST_ROOTS = 240


def root(row):
    """The root: its length, and how often it is done."""
    need_row(row)
    size = entry_count(row)
    if size == 0:
        return (0, 1)
    # a longer root is done at most so often, so these are all roots there can be; the least
    # length comes first, and the whole row has the period of its own length
    lengths = [length for length in range(1, LONGEST_ROOT + 1) if size % length == 0]
    for times in range(MOST_ROOTS, 0, -1):
        if size % times == 0 and size // times > LONGEST_ROOT:
            lengths.append(size // times)
    at = 0
    while not have_period(row, lengths[at]):
        at += 1
    return (lengths[at], size // lengths[at])


def rows_commute(row, other_row):
    """Whether both rows, joined in either order, read alike."""
    return first_parting(row + other_row, other_row + row) is None


def commute(row, other_row):
    """Whether the rows commute."""
    need_row(row)
    need_row(other_row)
    return rows_commute(row, other_row)


def common_root(row, other_row):
    """The greatest length of a row of which both are repeats, or None."""
    need_row(row)
    need_row(other_row)
    if not rows_commute(row, other_row):
        return None
    return gcd(entry_count(row), entry_count(other_row))
