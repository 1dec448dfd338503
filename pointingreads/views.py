"""The marks of the entries at which two readers point."""

from pointingreads.blocks import entry_mark
from pointingreads.checks import is_tuple, is_whole
from pointingreads.errors import BadName
from pointingreads.folding import folded
from pointingreads.reading import row_point
from pointingreads.readers import need_fit
from pointingreads.relations import relation_of
from pointingreads.searching import least_words
from pointingreads.twofold import START, Courses, need_two


def all_views(sorts):
    """All views with marks below sorts, in their order."""
    marks = list(range(sorts))
    found = [("none", None, None)]
    found.extend([("first", mark, None) for mark in marks])
    found.extend([("second", None, mark) for mark in marks])
    found.extend([("same", mark, mark) for mark in marks])
    for word in ("ahead", "behind"):
        found.extend([(word, mark, other) for mark in marks for other in marks])
    return found


def is_view(value, sorts):
    """Whether any value is a view with marks below sorts."""
    if not (is_tuple(value, 3, 3) and type(value[0]) == str):
        return False
    if not all([mark is None or is_whole(mark, 0, sorts - 1) for mark in value[1:]]):
        return False
    return value in all_views(sorts)


def view_words(reader, other, wanted):
    """The least rows with the wanted views, as far as they come: a dict."""
    courses = Courses(folded(reader), folded(other), True)
    return least_words([START], courses.nexts, courses.view, wanted)


def view_in(reader, other, row):
    """The view of the points of a row."""
    need_two(reader, other)
    need_fit(reader, row)
    place = row_point(reader, row)
    other_place = row_point(other, row)
    return (
        relation_of(place, other_place),
        None if place is None else entry_mark(row, place),
        None if other_place is None else entry_mark(row, other_place),
    )


def views(reader, other):
    """The views that come, in their order."""
    need_two(reader, other)
    wanted = all_views(reader[0])
    found = view_words(reader, other, wanted)
    return tuple([view for view in wanted if view in found])


def view_row(reader, other, view):
    """The least row with the view, or None."""
    need_two(reader, other)
    if not is_view(view, reader[0]):
        raise BadName(view)
    return view_words(reader, other, [view]).get(view)
