"""Two readers along the same rows, and the entries at which both point at the end.

A course is a tuple (STAND, OTHER_STAND, HAND, OTHER_HAND, WAY, MARK, OTHER_MARK). A row has
several of them: each takes for granted which of its entries will be pointed at in the end. HAND
and OTHER_HAND have these entries, -1 where there is none yet, MARK and OTHER_MARK their marks.
"""

from pointingreads.errors import BadSorts
from pointingreads.folding import folded
from pointingreads.readers import need_reader
from pointingreads.searching import explored, least_words

# the ways in which the two entries stand to one another; "none" before any has come
WAYS = ("none", "first", "second", "same", "ahead", "behind")
START = (0, 0, -1, -1, "none", None, None)


def need_two(reader, other):
    """Refuses what is no reader, and two readers with unlike sorts."""
    need_reader(reader)
    need_reader(other)
    if reader[0] != other[0]:
        raise BadSorts(other[0])


def hand_steps(reader):
    """For each stand and mark a triple: the next stand, the hand with the new entry or -1, and for
    each hand of the stand the hand that has its entry then, or -1."""
    _, held, steps, _ = reader
    found = []
    for stand, row in enumerate(steps):
        told = []
        for behind, keep in row:
            goes = [keep.index(hand) if hand in keep else -1 for hand in range(-1, held[stand])]
            told.append((behind, goes[0], tuple(goes[1:])))
        found.append(tuple(told))
    return tuple(found)


def stands_together(reader, other, start=(0, 0)):
    """The pairs of stands that are met together from a start, and for each the numbers of the next ones."""
    return explored(
        start,
        lambda pair: [
            (step[0], other_step[0]) for step, other_step in zip(reader[2][pair[0]], other[2][pair[1]])
        ],
        None)


class Courses:
    """The courses of two readers; with_marks tells whether they have the marks of the entries."""

    def __init__(self, reader, other, with_marks):
        self.sorts = reader[0]
        self.steps = hand_steps(reader)
        self.other_steps = hand_steps(other)
        self.points = reader[3]
        self.other_points = other[3]
        self.with_marks = with_marks

    def nexts(self, course):
        """For each mark the courses to which one goes."""
        return [self.behind(course, mark) for mark in range(self.sorts)]

    def behind(self, course, mark):
        """The courses behind one mark."""
        stand, other_stand, hand, other_hand, way, told, other_told = course
        stand, new, goes = self.steps[stand][mark]
        other_stand, other_new, other_goes = self.other_steps[other_stand][mark]
        if hand >= 0:
            hand = goes[hand]
        if other_hand >= 0:
            other_hand = other_goes[other_hand]
        # an entry that is let go is not pointed at in the end
        gone = hand < 0 and way not in ("none", "second")
        if gone or (other_hand < 0 and way not in ("none", "first")):
            return []
        fresh = mark if self.with_marks else None
        found = [(stand, other_stand, hand, other_hand, way, told, other_told)]
        if way == "none":
            if new >= 0:
                found.append((stand, other_stand, new, -1, "first", fresh, None))
            if other_new >= 0:
                found.append((stand, other_stand, -1, other_new, "second", None, fresh))
            if new >= 0 and other_new >= 0:
                found.append((stand, other_stand, new, other_new, "same", fresh, fresh))
        if way == "first" and other_new >= 0:
            found.append((stand, other_stand, hand, other_new, "ahead", told, fresh))
        if way == "second" and new >= 0:
            found.append((stand, other_stand, new, other_hand, "behind", fresh, other_told))
        return found

    def view(self, course):
        """The view of the row if the course is right at its end, otherwise None."""
        stand, other_stand, hand, other_hand, way, mark, other_mark = course
        if self.points[stand] == hand and self.other_points[other_stand] == other_hand:
            return (way, mark, other_mark)
        return None

    def relation(self, course):
        """The relation of the row if the course is right at its end, otherwise None."""
        stand, other_stand, hand, other_hand, way, _, _ = course
        if self.points[stand] == hand and self.other_points[other_stand] == other_hand:
            return way
        return None


def relation_words(reader, other, wanted):
    """The least rows with the wanted relations, as far as they come: a dict."""
    courses = Courses(folded(reader), folded(other), False)
    return least_words([START], courses.nexts, courses.relation, wanted)


def word_against(reader, other, words):
    """The least row with a relation that is not among some, or None."""
    courses = Courses(folded(reader), folded(other), False)
    rest = [way for way in WAYS if way not in words]
    found = least_words([START], courses.nexts, lambda course: courses.relation(course) in rest, [True])
    return found.get(True)
