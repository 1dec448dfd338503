"""Changes of rows, and where they leave the entries."""

from pointingreads.blocks import entry_count, entry_mark, part_of
from pointingreads.checks import is_tuple, is_whole
from pointingreads.errors import BadChange, BadPlace
from pointingreads.pieces import few_blocks
from pointingreads.rows import need_row

KINDS = ("lost", "put", "turned", "marked")


def has_change_form(value):
    """Whether any value is one of the four tuples."""
    if not (is_tuple(value, 2, 3) and type(value[0]) == str and type(value[1]) == int):
        return False
    if value[0] not in KINDS:
        return False
    if value[0] in ("lost", "turned"):
        return len(value) == 2
    return len(value) == 3 and is_whole(value[2], 0, 3)


def last_place(kind, length):
    """The greatest place of a change of this kind, for a row of this length."""
    return length + {"lost": -1, "put": 0, "turned": -2, "marked": -1}[kind]


def check_change(row, change):
    """Refuses what is no change of the row."""
    if not has_change_form(change):
        raise BadChange("form")
    if not is_whole(change[1], 0, last_place(change[0], entry_count(row))):
        raise BadChange("place")


def length_behind(row, change):
    """The length of the changed row."""
    return entry_count(row) + {"lost": -1, "put": 1, "turned": 0, "marked": 0}[change[0]]


def changed_blocks(row, change):
    """The blocks of the changed row, however many they are."""
    kind, place = change[0], change[1]
    ahead = part_of(row, 0, place)
    taken = {"lost": 1, "put": 0, "turned": 2, "marked": 1}[kind]
    behind = part_of(row, place + taken, entry_count(row))
    if kind == "lost":
        return ahead + behind
    if kind == "turned":
        return ahead + (((entry_mark(row, place + 1), entry_mark(row, place)), 1),) + behind
    return ahead + (((change[2],), 1),) + behind


def moved(change, place):
    """The place of an entry behind a change, None if it is lost."""
    kind, at = change[0], change[1]
    if kind == "lost" and place >= at:
        return None if place == at else place - 1
    if kind == "put" and place >= at:
        return place + 1
    if kind == "turned" and place in (at, at + 1):
        return 2 * at + 1 - place
    return place


def moved_back(change, place):
    """The place that an entry of the changed row has in the row, None if it was put in."""
    kind, at = change[0], change[1]
    if kind == "lost" and place >= at:
        return place + 1
    if kind == "put" and place >= at:
        return None if place == at else place - 1
    return moved(change, place) if kind == "turned" else place


def need_change(row, change):
    """The change, if it is one of the row."""
    need_row(row)
    check_change(row, change)
    return change


def changed(row, change):
    """The row behind the change."""
    need_row(row)
    check_change(row, change)
    return few_blocks(changed_blocks(row, change))


def place_behind(row, change, place):
    """The place that the entry at place has behind the change, None if it is lost."""
    need_row(row)
    check_change(row, change)
    if not is_whole(place, 0, entry_count(row) - 1):
        raise BadPlace(place)
    return moved(change, place)


def place_ahead(row, change, place):
    """The place that the entry at place of the changed row has in the row, None if it was put in."""
    need_row(row)
    check_change(row, change)
    if not is_whole(place, 0, length_behind(row, change) - 1):
        raise BadPlace(place)
    return moved_back(change, place)


def taking_back(row, change):
    """The change of the changed row that takes the change back."""
    need_row(row)
    check_change(row, change)
    kind, place = change[0], change[1]
    if kind == "put":
        return ("lost", place)
    if kind == "turned":
        return change
    return ("put" if kind == "lost" else kind, place, entry_mark(row, place))
