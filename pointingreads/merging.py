"""Readers whose points can be told from the points of parts."""

from pointingreads.folding import folded
from pointingreads.ranked import ranking_told
from pointingreads.readers import need_reader
from pointingreads.searching import least_words
from pointingreads.signs import word_point
from pointingreads.twofold import hand_steps


class Halves:
    """What is known along a row that is taken apart at one place.

    Ahead of that place it is ("first", STAND, HAND, MARK), HAND and MARK being those of the entry at
    which the reader points there, -1 and None where there is none yet. Behind it it is
    ("second", STAND, OTHER_STAND, HAND, MARK, OTHER_HAND, WHOLE_HAND, OTHER_MARK): OTHER_STAND is that
    of the second part read by itself, OTHER_HAND and OTHER_MARK those of its point, and WHOLE_HAND the
    hand that has this entry if the whole row is read. HAND, WHOLE_HAND are -1 of what is let go.
    """

    def __init__(self, least):
        self.mark_list = list(range(least[0]))
        self.steps = hand_steps(least)
        self.points = least[3]
        marks = [None] + self.mark_list
        self.best = {
            (mark, other): word_point(least, tuple([one for one in (mark, other) if one is not None]))
            for mark in marks for other in marks}

    def starts(self):
        """What is known of the empty row."""
        return self.with_second([("first", 0, -1, None)])

    def with_second(self, halves):
        """The same, also with the second part beginning there."""
        found = list(halves)
        for _, stand, hand, mark in halves:
            if self.points[stand] == hand:
                found.append(("second", stand, 0, hand, mark, -1, -1, None))
        return found

    def nexts(self, half):
        """For each mark what is known behind it."""
        if half[0] == "first":
            return [self.with_second(self.first_behind(half, mark)) for mark in self.mark_list]
        return [self.second_behind(half, mark) for mark in self.mark_list]

    def first_behind(self, half, mark):
        """What is known behind a mark of the first part."""
        _, stand, hand, told = half
        stand, new, goes = self.steps[stand][mark]
        if told is not None:
            return [("first", stand, goes[hand], told)] if goes[hand] >= 0 else []
        found = [("first", stand, -1, None)]
        if new >= 0:
            found.append(("first", stand, new, mark))
        return found

    def second_behind(self, half, mark):
        """What is known behind a mark of the second part."""
        _, stand, other_stand, hand, told, other_hand, whole_hand, other_told = half
        stand, new, goes = self.steps[stand][mark]
        other_stand, other_new, other_goes = self.steps[other_stand][mark]
        hand = goes[hand] if hand >= 0 else -1
        if other_told is not None:
            other_hand = other_goes[other_hand]
            whole_hand = goes[whole_hand] if whole_hand >= 0 else -1
            if other_hand < 0:
                return []
            return [("second", stand, other_stand, hand, told, other_hand, whole_hand, other_told)]
        found = [("second", stand, other_stand, hand, told, -1, -1, None)]
        if other_new >= 0:
            found.append(("second", stand, other_stand, hand, told, other_new, new, mark))
        return found

    def fails(self, half):
        """Whether the row shows that the reader isn't merged by points."""
        if half[0] == "first" or self.points[half[2]] != half[5]:
            return False
        _, stand, _, hand, mark, _, whole_hand, other_mark = half
        best = self.best[(mark, other_mark)]
        if best is None:
            return self.points[stand] >= 0
        # the one point comes first in the row of both
        wanted = hand if best == 0 and mark is not None else whole_hand
        return wanted < 0 or self.points[stand] != wanted


def fails_at(least, word, many):
    """Whether a word, taken apart behind so many marks, shows that the reader isn't merged by points."""
    place = word_point(least, word[:many])
    other_place = word_point(least, word[many:])
    places = [] if place is None else [place]
    if other_place is not None:
        places.append(many + other_place)
    best = word_point(least, tuple([word[one] for one in places]))
    return word_point(least, word) != (None if best is None else places[best])


def unmerged(reader):
    """None, or two words that show that the reader isn't merged by points."""
    need_reader(reader)
    # just the readers of rankings are merged by points
    if ranking_told(reader) is not None:
        return None
    least = folded(reader)
    halves = Halves(least)
    word = least_words(halves.starts(), halves.nexts, halves.fails, [True])[True]
    many = [fails_at(least, word, count) for count in range(len(word) + 1)].index(True)
    return (word[:many], word[many:])
