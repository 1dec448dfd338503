"""What rows hand on, and rows that stand for one another."""

from pointingreads.folding import folded, pointers
from pointingreads.needs import stand_words
from pointingreads.partings import is_parting, parting_of
from pointingreads.passages import numbered_ways, passage_of
from pointingreads.readers import need_fit


def surroundings_of(least, blocks):
    """For the place of each entry that is handed on its surrounding: a dict."""
    words = stand_words(least)
    told = pointers(least)
    _, ways = passage_of(least, blocks)
    found = {}
    # the stands of a least reader stand in the order of the least words that lead to them
    for stand, (behind, hold) in enumerate(ways):
        for hand, thing in enumerate(hold):
            if thing < 0:
                found.setdefault(-1 - thing, (words[stand], told[behind][hand]))
    return found


def handed_on(reader, row):
    """The entries that are handed on, with their surroundings."""
    need_fit(reader, row)
    found = surroundings_of(folded(reader), row)
    return tuple([(place,) + found[place] for place in sorted(found)])


def stand_for(reader, row, other_row):
    """None, or the map of the entries that are handed on if both rows stand for one another."""
    need_fit(reader, row)
    need_fit(reader, other_row)
    least = folded(reader)
    told, places = numbered_ways(passage_of(least, row)[1])
    other_told, other_places = numbered_ways(passage_of(least, other_row)[1])
    return tuple(sorted(zip(places, other_places))) if told == other_told else None


def rows_parted(reader, row, other_row):
    """None if both rows stand for one another, otherwise a parting."""
    need_fit(reader, row)
    need_fit(reader, other_row)
    return parting_of(folded(reader), row, other_row)


def is_rows_parting(reader, row, other_row, value):
    """Whether any value is a parting of the rows."""
    need_fit(reader, row)
    need_fit(reader, other_row)
    return is_parting(reader, row, other_row, value)
