"""Two readers that take the entries of a row by turns."""

from pointingreads.blocks import all_marks
from pointingreads.ordering import point_among
from pointingreads.readers import need_fit
from pointingreads.rows import need_short
from pointingreads.twofold import need_two


def shares(reader, other, row):
    """The places that the two readers take, of each in the order in which it takes them."""
    need_two(reader, other)
    need_fit(reader, row)
    need_short(row)
    marks = all_marks(row)
    places = list(range(len(marks)))
    readers = (reader, other)
    found = ([], [])
    turn = 0
    nothing = 0
    # two turns without an entry are the end: nothing changes between them
    while nothing < 2:
        place = point_among(readers[turn], marks, places)
        if place is None:
            nothing += 1
        else:
            nothing = 0
            found[turn].append(place)
            places.remove(place)
        turn = 1 - turn
    return tuple(found[0]), tuple(found[1])
