"""Parts of rows, and rows put together."""

from pointingreads.blocks import entry_count, from_the_end, part_of
from pointingreads.checks import is_whole
from pointingreads.errors import BadPlace, TooGreat
from pointingreads.places import need_border
from pointingreads.rows import MOST_BLOCKS, need_row


def few_blocks(blocks):
    """The blocks, if they are not too many for a row."""
    if len(blocks) > MOST_BLOCKS:
        raise TooGreat(MOST_BLOCKS)
    return blocks


def cut_out(row, start, stop):
    """The part of the row from start to stop."""
    need_row(row)
    need_border(row, start)
    if not is_whole(stop, start, entry_count(row)):
        raise BadPlace(stop)
    return few_blocks(part_of(row, start, stop))


def rows_joined(row, other_row):
    """The one row, and the other one behind it."""
    need_row(row)
    need_row(other_row)
    return few_blocks(row + other_row)


def turned_about(row):
    """The row from its last entry to its first."""
    need_row(row)
    return from_the_end(row)
