"""What rows hand on, and rows that stand for one another."""

from pointingreads.blocks import entry_count
from pointingreads.checks import is_tuple
from pointingreads.folding import folded, pointers
from pointingreads.needs import is_word, reason_for, stand_words
from pointingreads.passages import numbered_ways, passage_of
from pointingreads.readers import need_fit
from pointingreads.walking import row_walked, walked


def surroundings_of(least, blocks):
    """For the place of each entry that is handed on its surrounding: a dict."""
    words = stand_words(least)
    told = pointers(least)
    _, ways = passage_of(least, blocks)
    found = {}
    # the stands of a least reader stand in the order of the least words that lead to them
    for stand, (behind, hold) in enumerate(ways):
        for hand, thing in enumerate(hold):
            if thing < 0:
                found.setdefault(-1 - thing, (words[stand], told[behind][hand]))
    return found


def handed_on(reader, row):
    """The entries that are handed on, with their surroundings."""
    need_fit(reader, row)
    found = surroundings_of(folded(reader), row)
    return tuple([(place,) + found[place] for place in sorted(found)])


def stand_for(reader, row, other_row):
    """None, or the map of the entries that are handed on if both rows stand for one another."""
    need_fit(reader, row)
    need_fit(reader, other_row)
    least = folded(reader)
    told, places = numbered_ways(passage_of(least, row)[1])
    other_told, other_places = numbered_ways(passage_of(least, other_row)[1])
    return tuple(sorted(zip(places, other_places))) if told == other_told else None


def point_seen(reader, ahead, blocks, behind):
    """What is pointed at with a word ahead of some blocks and one behind them.

    None, or a pair of a word, "ahead", "row" or "behind", and the place there.
    """
    stand, places = walked(reader[2], 0, (), ahead, 0)
    stand, places = row_walked(reader[2], stand, places, blocks, len(ahead))
    many = len(ahead) + entry_count(blocks)
    stand, places = walked(reader[2], stand, places, behind, many)
    hand = reader[3][stand]
    if hand < 0:
        return None
    place = places[hand]
    if place < len(ahead):
        return ("ahead", place)
    return ("row", place - len(ahead)) if place < many else ("behind", place - many)


def in_row(seen):
    """Whether what is pointed at is an entry of the row between the words."""
    return seen is not None and seen[0] == "row"


def is_parting(reader, row, other_row, value):
    """Whether any value is a parting of two rows."""
    if not (is_tuple(value, 3, 5) and type(value[0]) == str):
        return False
    if len(value) == 4 or value[0] != ("one" if len(value) == 3 else "two"):
        return False
    if not all([is_word(word, reader[0]) for word in value[1:]]):
        return False
    seen = point_seen(reader, value[1], row, value[2])
    other_seen = point_seen(reader, value[1], other_row, value[2])
    if value[0] == "one":
        return not (in_row(seen) and in_row(other_seen)) and seen != other_seen
    more = point_seen(reader, value[3], row, value[4])
    other_more = point_seen(reader, value[3], other_row, value[4])
    if not all([in_row(one) for one in (seen, other_seen, more, other_more)]):
        return False
    return (seen == more) != (other_seen == other_more)


def parting_by_words(reader, row, other_row, ahead, words):
    """A parting with one word ahead of the rows, and one or two of some words behind them."""
    for word in words:
        if is_parting(reader, row, other_row, ("one", ahead, word)):
            return ("one", ahead, word)
    return ("two", ahead, words[0], ahead, words[1])


def parting_by_stands(least, row, other_row, ways, other_ways):
    """A parting where both rows lead a stand to unlike stands, or unlike old hands are held."""
    words = stand_words(least)
    told = pointers(least)
    for stand, (behind, hold) in enumerate(ways):
        other_behind, other_hold = other_ways[stand]
        if behind != other_behind:
            reason = reason_for(least, told, behind, other_behind)
            return parting_by_words(least, row, other_row, words[stand], reason[1:])
        for hand, (thing, other_thing) in enumerate(zip(hold, other_hold)):
            if thing != other_thing and (thing >= 0 or other_thing >= 0):
                return ("one", words[stand], told[behind][hand])
    return None


def parting_by_entries(least, ways, other_ways):
    """A parting where an entry that is handed on twice has two images in the other row."""
    words = stand_words(least)
    told = pointers(least)
    seen = ({}, {})
    for stand, (behind, hold) in enumerate(ways):
        for hand, pair in enumerate(zip(hold, other_ways[stand][1])):
            if pair[0] < 0:
                for side in (0, 1):
                    known, at, hand_at = seen[side].setdefault(pair[side], (pair[1 - side], stand, hand))
                    if known != pair[1 - side]:
                        first = told[ways[at][0]][hand_at]
                        return ("two", words[at], first, words[stand], told[behind][hand])
    return None


def parting_of(least, row, other_row):
    """A parting of two rows for a least reader, None if they stand for one another."""
    _, ways = passage_of(least, row)
    _, other_ways = passage_of(least, other_row)
    found = parting_by_stands(least, row, other_row, ways, other_ways)
    return parting_by_entries(least, ways, other_ways) if found is None else found


def rows_parted(reader, row, other_row):
    """None if both rows stand for one another, otherwise a parting."""
    need_fit(reader, row)
    need_fit(reader, other_row)
    return parting_of(folded(reader), row, other_row)


def is_rows_parting(reader, row, other_row, value):
    """Whether any value is a parting of the rows."""
    need_fit(reader, row)
    need_fit(reader, other_row)
    return is_parting(reader, row, other_row, value)
