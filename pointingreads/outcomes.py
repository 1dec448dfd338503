"""What one change does to the point."""

from pointingreads.changes import changed_blocks, check_change, moved_back
from pointingreads.errors import BadChange
from pointingreads.reading import row_point
from pointingreads.readers import need_fit


def name_before(change, place):
    """What is pointed at ahead of a change."""
    if place is None:
        return "none"
    kind, at = change[0], change[1]
    if kind in ("lost", "marked") and place == at:
        return "it"
    if kind == "turned" and place in (at, at + 1):
        return "left" if place == at else "right"
    return "other"


def name_after(change, place, behind):
    """What is pointed at behind a change; place is the point ahead of it, behind the new one."""
    if behind is None:
        return "none"
    kind, at = change[0], change[1]
    if kind in ("put", "marked") and behind == at:
        return "it"
    entry = moved_back(change, behind)
    if kind == "turned" and entry in (at, at + 1):
        return "left" if entry == at else "right"
    return "same" if entry == place else "other"


def outcome_of(reader, row, change):
    """The outcome of a change of a row that fits."""
    place = row_point(reader, row)
    behind = row_point(reader, changed_blocks(row, change))
    return (name_before(change, place), name_after(change, place, behind))


def outcome(reader, row, change):
    """The outcome of the change."""
    need_fit(reader, row)
    check_change(row, change)
    if len(change) == 3 and change[2] >= reader[0]:
        raise BadChange("mark")
    return outcome_of(reader, row, change)
