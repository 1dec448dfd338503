"""Readers of the part of a row that other readers bound."""

from pointingreads.errors import BadSorts
from pointingreads.folding import folded
from pointingreads.joints import Ahead, Behind, Between
from pointingreads.readers import need_reader
from pointingreads.traced import reader_traced
from pointingreads.twofold import need_two


def part_behind(reader, other):
    """The other one's point in the part behind the reader's point."""
    need_two(reader, other)
    return reader_traced(Behind(folded(reader), folded(other)))


def part_ahead(reader, other):
    """The other one's point in the part ahead of the reader's point."""
    need_two(reader, other)
    return reader_traced(Ahead(folded(reader), folded(other)))


def between(reader, other, third):
    """The third one's point in the part between the points of both."""
    need_reader(reader)
    need_reader(other)
    need_reader(third)
    for one in (other, third):
        if one[0] != reader[0]:
            raise BadSorts(one[0])
    return reader_traced(Between([folded(reader), folded(other), folded(third)]))
