"""Where the point is if a part is done again and again."""

from math import lcm

from pointingreads.blocks import entry_count
from pointingreads.errors import BadRow
from pointingreads.folding import folded
from pointingreads.orbits import orbit
from pointingreads.passages import empty_passage, passage_joined, passage_of
from pointingreads.readers import MOST_HANDS, need_fit
from pointingreads.walking import row_walked


def points_often(reader, row, passages, most):
    """The points with the part done 0, 1 .. most - 1 times between the rows.

    passages are those of the part and of the other row.
    """
    size, ways = passages[0]
    stand, places = row_walked(reader[2], 0, (), row, 0)
    length = entry_count(row)
    found = []
    for _ in range(most):
        behind, hold = passages[1][1][stand]
        hand = reader[3][behind]
        things = () if hand < 0 else (hold[hand],)
        found.append(things_placed(things, places, length))
        stand, hold = ways[stand]
        places = things_placed(hold, places, length)
        length += size
    return [None if told == () else told[0] for told in found]


def things_placed(things, places, length):
    """The places of what a hold of a passage tells, read behind so many entries."""
    return tuple([places[thing] if thing >= 0 else length - 1 - thing for thing in things])


def rounds_turning(hold):
    """After how many rounds all hands that are kept for ever are back where they were."""
    found = 1
    for hand, at in enumerate(hold):
        many = 1
        while at >= 0 and at != hand and many <= len(hold):
            at = hold[at]
            many += 1
        if at == hand:
            found = lcm(found, many)
    return found


def rounds_alike(reader, row, passage):
    """A pair: from how many times on where the point is comes again, and after how many times."""
    table = [(behind,) for behind, _ in passage[1]]
    stand, _ = row_walked(reader[2], 0, (), row, 0)
    order, back = orbit(table, stand, (0,))
    once = len(order) - back
    whole = empty_passage(reader)
    for _ in range(once):
        whole = passage_joined(whole, passage)
    # what is let go is let go within as many rounds as there are hands
    begin = back + once * (MOST_HANDS + 1)
    return begin, once * rounds_turning(whole[1][order[back]][1])


def where_told(points, begin, period, size, length):
    """Where the point is, for one period from the beginning on.

    length is that of the rows around the part, size that of the part.
    """
    found = []
    for times in range(begin, begin + period):
        place = points[times]
        if place is None:
            found.append(None)
        elif points[times + period] == place:
            found.append(("front", place))
        else:
            found.append(("end", length + times * size - 1 - place))
    return found


def is_where(where, place, length):
    """Whether a place in a row of this length is where it is told to be."""
    if where is None or place is None:
        return where is None and place is None
    return where[1] == (place if where[0] == "front" else length - 1 - place)


def least_round(wheres):
    """The least number after which things that go round come again."""
    for many in range(1, len(wheres)):
        if len(wheres) % many == 0 and wheres[many:] == wheres[:-many]:
            return many
    return len(wheres)


def long_run(reader, row, part, other_row):
    """The long run with the fewest things and the least beginning."""
    for value in (row, part, other_row):
        need_fit(reader, value)
    if part == ():
        raise BadRow(None)
    least = folded(reader)
    passage = passage_of(least, part)
    length = entry_count(row) + entry_count(other_row)
    begin, period = rounds_alike(least, row, passage)
    points = points_often(least, row, (passage, passage_of(least, other_row)), begin + 2 * period)
    wheres = where_told(points, begin, period, passage[0], length)
    wheres = wheres[:least_round(wheres)]
    # going back, the last thing comes first again
    while begin > 0 and is_where(wheres[-1], points[begin - 1], length + (begin - 1) * passage[0]):
        wheres = wheres[-1:] + wheres[:-1]
        begin -= 1
    return (begin, tuple(wheres))
