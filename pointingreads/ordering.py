"""The order in which a reader takes the entries of a row."""

from pointingreads.blocks import all_marks, entry_count, entry_mark, part_of
from pointingreads.checks import is_whole
from pointingreads.errors import BadNumber, NotSteady
from pointingreads.places import need_entry
from pointingreads.ranked import ranking_told
from pointingreads.readers import need_fit, need_reader
from pointingreads.reading import MOST_LENGTH, row_point
from pointingreads.rows import need_short


def point_among(reader, marks, places):
    """The place of the point in the row of the entries of a word at some places, or None."""
    if not places:
        return None
    at = row_point(reader, ((tuple([marks[place] for place in places]), 1),))
    return None if at is None else places[at]


def order_of(reader, row):
    """The places of the entries in the order in which the reader takes them from a short row."""
    need_fit(reader, row)
    need_short(row)
    marks = all_marks(row)
    places = list(range(len(marks)))
    found = []
    place = point_among(reader, marks, places)
    while place is not None:
        found.append(place)
        places.remove(place)
        place = point_among(reader, marks, places)
    return tuple(found)


def steady_ranking(reader, row):
    """The ranking of a steady reader, if the row is one for it."""
    need_reader(reader)
    ranking = ranking_told(reader)
    if ranking is None:
        raise NotSteady()
    need_fit(reader, row)
    return ranking


def count_among(blocks, wanted):
    """How many entries of the blocks have one of some marks."""
    return sum([len([mark for mark in marks if mark in wanted]) * times for marks, times in blocks])


def place_among(blocks, wanted, number):
    """The place of the entry with one of some marks that has so many of them ahead."""
    ahead = 0
    for marks, times in blocks:
        offsets = [offset for offset, mark in enumerate(marks) if mark in wanted]
        if number < len(offsets) * times:
            rounds, rest = divmod(number, len(offsets))
            return ahead + rounds * len(marks) + offsets[rest]
        number -= len(offsets) * times
        ahead += len(marks) * times
    return None


def order_number(reader, row):
    """How many entries the order of a steady reader has."""
    ranking = steady_ranking(reader, row)
    return sum([count_among(row, wanted) for _, wanted in ranking])


def order_at(reader, row, number):
    """The place of the entry with this number in the order of a steady reader, or None."""
    ranking = steady_ranking(reader, row)
    if not is_whole(number, 0, MOST_LENGTH):
        raise BadNumber(number)
    for end, wanted in ranking:
        many = count_among(row, wanted)
        if number < many:
            return place_among(row, wanted, number if end == "first" else many - 1 - number)
        number -= many
    return None


def order_rank(reader, row, place):
    """The number of the entry at the place in the order of a steady reader, or None."""
    ranking = steady_ranking(reader, row)
    need_entry(row, place)
    mark = entry_mark(row, place)
    number = 0
    for end, wanted in ranking:
        if mark in wanted:
            low, high = (0, place) if end == "first" else (place + 1, entry_count(row))
            return number + count_among(part_of(row, low, high), wanted)
        number += count_among(row, wanted)
    return None
