"""Readers put together, and readers of other rows."""

from pointingreads.checks import are_whole, is_tuple
from pointingreads.errors import BadMark
from pointingreads.folding import folded
from pointingreads.joints import Chosen, Decided, Mirrored
from pointingreads.readers import need_reader
from pointingreads.traced import reader_traced
from pointingreads.twofold import need_two


def chosen(reader, other, choices):
    """The least reader of one of both points, as their relation tells."""
    need_two(reader, other)
    return reader_traced(Chosen(folded(reader), folded(other), choices))


def reader_else(reader, other):
    """The reader's point, and where that is none, the other one's."""
    need_two(reader, other)
    least = folded(reader)
    return reader_traced(Decided(least, least, folded(other)))


def former(reader, other):
    """The one of both points that is further ahead."""
    return chosen(reader, other, {"first": 0, "second": 1, "same": 0, "ahead": 0, "behind": 1})


def latter(reader, other):
    """The one of both points that is further behind."""
    return chosen(reader, other, {"first": 0, "second": 1, "same": 0, "ahead": 1, "behind": 0})


def reader_if(reader, other):
    """The reader's point where the other one has a point."""
    need_two(reader, other)
    return reader_traced(Decided(folded(other), folded(reader), None))


def reader_where(reader, other):
    """The reader's point where both points are one entry."""
    return chosen(reader, other, {"same": 0})


def on_marks(reader, marks):
    """The reader's point in the row of the entries with these marks alone."""
    sorts, held, steps, points = need_reader(reader)
    if not (is_tuple(marks, 0, sorts) and are_whole(marks, 0, sorts - 1) and sorted(set(marks)) == list(marks)):
        raise BadMark(marks)
    told = [
        tuple([
            step if mark in marks else (stand, tuple(range(held[stand]))) for mark, step in enumerate(row)
        ])
        for stand, row in enumerate(steps)
    ]
    return folded((sorts, held, tuple(told), points))


def mirrored(reader):
    """The reader's point in the row read from the last entry to the first."""
    need_reader(reader)
    return reader_traced(Mirrored(folded(reader)))


def renamed(reader, marks):
    """The reader that reads each mark as another one."""
    sorts, held, steps, points = need_reader(reader)
    if not (is_tuple(marks, 1, 4) and are_whole(marks, 0, sorts - 1)):
        raise BadMark(marks)
    told = tuple([tuple([row[mark] for mark in marks]) for row in steps])
    return folded((len(marks), held, told, points))
