"""Readers along rows."""

from pointingreads.blocks import all_marks, entry_count, entry_mark
from pointingreads.checks import are_unlike, are_whole, is_tuple, is_whole
from pointingreads.errors import BadPaper, TooGreat
from pointingreads.readers import need_fit, need_reader
from pointingreads.rows import need_short
from pointingreads.walking import row_walked, walked

MOST_LENGTH = 10 ** 40


def place_in_hand(places, hand):
    """The place in a hand, None for the hand -1."""
    return None if hand < 0 else places[hand]


def row_point(reader, row):
    """The point of a row that fits."""
    stand, places = row_walked(reader[2], 0, (), row, 0)
    return place_in_hand(places, reader[3][stand])


def read(reader, row):
    """The stand behind the row, and the places in its hands."""
    need_fit(reader, row)
    return row_walked(reader[2], 0, (), row, 0)


def point(reader, row):
    """The place of the entry at which the reader points, or None."""
    need_fit(reader, row)
    return row_point(reader, row)


def mark_pointed(reader, row):
    """The mark of the entry at which the reader points, or None."""
    need_fit(reader, row)
    place = row_point(reader, row)
    return None if place is None else entry_mark(row, place)


def is_reading(reader, value):
    """Whether any value is a reading of the reader."""
    if not is_tuple(value, 3, 3):
        return False
    stand, places, length = value
    held = reader[1]
    if not (is_whole(stand, 0, len(held) - 1) and is_whole(length, 0, MOST_LENGTH)):
        return False
    if not is_tuple(places, held[stand], held[stand]):
        return False
    return are_whole(places, 0, length - 1) and are_unlike(places)


def need_reading(reader, reading):
    """Refuses what is no reading of the reader."""
    if not is_reading(reader, reading):
        raise BadPaper("reading")


def first_reading(reader):
    """The reading of the empty row."""
    need_reader(reader)
    return (0, (), 0)


def go_on(reader, reading, row):
    """The reading behind a row that is read from a reading."""
    need_reader(reader)
    need_reading(reader, reading)
    need_fit(reader, row)
    stand, places, length = reading
    behind = length + entry_count(row)
    if behind > MOST_LENGTH:
        raise TooGreat(MOST_LENGTH)
    stand, places = row_walked(reader[2], stand, places, row, length)
    return (stand, places, behind)


def end_point(reader, reading):
    """The place of the entry at which the reader points there, or None."""
    need_reader(reader)
    need_reading(reader, reading)
    return place_in_hand(reading[1], reader[3][reading[0]])


def points_along(reader, row):
    """The points of all beginnings of a short row."""
    need_fit(reader, row)
    need_short(row)
    stand, places = 0, ()
    points = [None]
    for place, mark in enumerate(all_marks(row)):
        stand, places = walked(reader[2], stand, places, (mark,), place)
        points.append(place_in_hand(places, reader[3][stand]))
    return tuple(points)
