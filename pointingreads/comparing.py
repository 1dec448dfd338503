"""Where two rows part, and which one is ahead."""

from pointingreads.blocks import entry_count, entry_mark, first_parting, from_the_end
from pointingreads.rows import need_row


def first_unlike(row, other_row):
    """The place at which the rows part, or None."""
    need_row(row)
    need_row(other_row)
    return first_parting(row, other_row)


def read_alike(row, other_row):
    """Whether both rows have the same marks in the same order."""
    need_row(row)
    need_row(other_row)
    return first_parting(row, other_row) is None


def is_ahead(row, other_row):
    """Whether the row is ahead of the other one in the order of rows."""
    need_row(row)
    need_row(other_row)
    size = entry_count(row)
    other_size = entry_count(other_row)
    if size != other_size:
        return size < other_size
    place = first_parting(row, other_row)
    return place is not None and entry_mark(row, place) < entry_mark(other_row, place)


def common_end(row, other_row):
    """How many of the last entries are alike."""
    need_row(row)
    need_row(other_row)
    place = first_parting(from_the_end(row), from_the_end(other_row))
    if place is None:
        return entry_count(row)
    return place
