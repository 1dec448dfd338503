"""How far apart the points of two readers can be."""

from pointingreads.checks import MOST_TIMES, is_whole
from pointingreads.errors import BadNumber, TooGreat
from pointingreads.gaprows import packed, row_with
from pointingreads.pieces import few_blocks
from pointingreads.reading import row_point
from pointingreads.readers import need_fit
from pointingreads.residues import least_period
from pointingreads.rows import MOST_BLOCKS
from pointingreads.trails import Trails
from pointingreads.twofold import need_two, relation_words

MOST_SIDE = 2000


def need_gap(number):
    """Refuses what is no integer that may be a gap."""
    if not is_whole(number, -MOST_TIMES, MOST_TIMES):
        raise BadNumber(number)


def trails_for(reader, other, number):
    """The trails on the side of a number, not 0."""
    # a gap below 0 is one above 0 of the two readers the other way round
    return Trails(reader, other) if number > 0 else Trails(other, reader)


def same_word(reader, other):
    """The least row in which both point at one entry, or None."""
    return relation_words(reader, other, ("same",)).get("same")


def gap_in(reader, other, row):
    """The gap of a row, None where a point is None."""
    need_two(reader, other)
    need_fit(reader, row)
    place = row_point(reader, row)
    other_place = row_point(other, row)
    return None if place is None or other_place is None else other_place - place


def gap_comes(reader, other, number):
    """Whether the gap comes."""
    need_two(reader, other)
    need_gap(number)
    if number == 0:
        return same_word(reader, other) is not None
    return trails_for(reader, other, number).lengths().has(abs(number) - 1)


def gap_row(reader, other, number):
    """A row with the gap, or None."""
    need_two(reader, other)
    need_gap(number)
    if number == 0:
        word = same_word(reader, other)
        return None if word is None else few_blocks(packed(word))
    trails = trails_for(reader, other, number)
    many = abs(number) - 1
    if not trails.lengths().has(many):
        return None
    found = row_with(trails, many)
    if found is None:
        raise TooGreat(MOST_BLOCKS)
    return found


def gap_ends(reader, other):
    """The least and the greatest gap, None in the place of one that there isn't."""
    need_two(reader, other)
    above = Trails(reader, other).lengths()
    below = Trails(other, reader).lengths()
    least, greatest = below.greatest(), above.greatest()
    has_above, has_below = above.least() is not None, below.least() is not None
    has_same = same_word(reader, other) is not None
    if not (has_above or has_below or has_same):
        return None
    if has_below:
        low = None if least is None else -1 - least
    else:
        low = 0 if has_same else 1 + above.least()
    if has_above:
        high = None if greatest is None else 1 + greatest
    else:
        high = 0 if has_same else -1 - below.least()
    return (low, high)


def gap_side(lengths):
    """The side that lengths tell: the gaps are 1 more than the numbers of arrows."""
    period = least_period(lengths.end_rests, MOST_SIDE - 1)
    if period is None:
        raise TooGreat(MOST_SIDE)
    start = 1
    many = 0
    while many < len(lengths.comes) or not lengths.steady:
        if lengths.has(many) != lengths.told(many):
            start = many + 2
        many += 1
        if start + period > MOST_SIDE:
            raise TooGreat(MOST_SIDE)
    members = [number for number in range(1, start + period) if lengths.has(number - 1)]
    return (start, period, tuple(members))


def gap_sides(reader, other):
    """Whether the gap 0 comes, and the sides of those above and of those below."""
    need_two(reader, other)
    same = same_word(reader, other) is not None
    above = gap_side(Trails(reader, other).lengths())
    below = gap_side(Trails(other, reader).lengths())
    return (same, above, below)
