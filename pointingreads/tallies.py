"""How often something is so along a row."""

from pointingreads.blocks import all_marks, entry_count, entry_mark, part_of
from pointingreads.orbits import orbit, orbit_at, state_behind_blocks, visits
from pointingreads.places import need_entry
from pointingreads.readers import need_fit
from pointingreads.rows import need_short
from pointingreads.walking import entries_kept, walked


def stand_table(reader):
    """For each stand the next stand by each mark."""
    return [[step[0] for step in row] for row in reader[2]]


def step_counts(reader, row):
    """How often each step is made along the row: a dict from (stand, mark)."""
    table = stand_table(reader)
    counts = {}
    stand = 0
    for marks, times in row:
        order, back = orbit(table, stand, marks)
        often = visits(order, back, times)
        for number, at in enumerate(order):
            for mark in marks:
                counts[(at, mark)] = counts.get((at, mark), 0) + often[number]
                at = table[at][mark]
        stand = orbit_at(order, back, times)
    return counts


def beginnings_at(reader, row):
    """How many beginnings of the row end at each stand."""
    found = [0] * len(reader[1])
    found[0] = 1
    for (stand, mark), often in step_counts(reader, row).items():
        found[reader[2][stand][mark][0]] += often
    return found


def tally(reader, row):
    """The tally of the row."""
    need_fit(reader, row)
    return tuple(beginnings_at(reader, row))


def points_none(reader, row):
    """How many beginnings of the row have no point."""
    need_fit(reader, row)
    often = beginnings_at(reader, row)
    return sum([often[stand] for stand, hand in enumerate(reader[3]) if hand < 0])


def points_newest(reader, row):
    """How many beginnings of the row have their last entry as point."""
    need_fit(reader, row)
    found = 0
    for (stand, mark), often in step_counts(reader, row).items():
        behind, keep = reader[2][stand][mark]
        hand = reader[3][behind]
        if hand >= 0 and keep[hand] < 0:
            found += often
    return found


def span(reader, row, place):
    """The span of the entry at the place."""
    need_fit(reader, row)
    need_entry(row, place)
    stand = state_behind_blocks(stand_table(reader), 0, part_of(row, 0, place))
    stand, keep = reader[2][stand][entry_mark(row, place)]
    if -1 not in keep:
        return 0
    behind = part_of(row, place + 1, entry_count(row))
    return 1 + entries_kept(reader[2], stand, keep.index(-1), behind)


def held_longest(reader, row):
    """The first entry of a short row with the greatest span, and this span."""
    need_fit(reader, row)
    need_short(row)
    marks = all_marks(row)
    if marks == ():
        return None
    spans = [0] * len(marks)
    stand, places = 0, ()
    for place, mark in enumerate(marks):
        stand, places = walked(reader[2], stand, places, (mark,), place)
        for other in places:
            spans[other] += 1
    greatest = max(spans)
    return (spans.index(greatest), greatest)
