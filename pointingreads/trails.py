"""Rows in which one reader points at an entry that stands so many entries ahead of another one.

From the entry at which the first reader points to that of the other one, a row goes along *inner*
courses: the first entry has come, the other one hasn't.
"""

from pointingreads.folding import folded
from pointingreads.lengths import Lengths
from pointingreads.routes import distances
from pointingreads.searching import explored_ways, word_to
from pointingreads.twofold import START, Courses


class Trails:
    """All courses to rows in which the first reader's point is ahead."""

    def __init__(self, reader, other):
        courses = Courses(folded(reader), folded(other), False)
        order, arrows, ahead = explored_ways(START, courses.nexts)
        ends = [at for at, course in enumerate(order) if courses.relation(course) == "ahead"]
        self.arrows = arrows
        self.ahead = ahead
        self.far = distances(arrows, ends)
        self.ways = [course[4] for course in order]
        self.inner = [
            at for at, way in enumerate(self.ways) if way == "first" and self.far[at] is not None
        ]
        self.numbers = {at: number for number, at in enumerate(self.inner)}
        # for each inner course, by its number, the inner ones behind it: pairs (mark, number)
        self.leads = [
            [(mark, self.numbers[behind]) for mark, behind in arrows[at] if behind in self.numbers]
            for at in self.inner
        ]
        self.first_arrows = self.starting()
        self.last_arrows = self.stopping()

    def starting(self):
        """For each inner course that begins an arrow to it: a pair of a course and a mark."""
        found = {}
        for at, row in enumerate(self.arrows):
            if self.ways[at] == "none":
                for mark, behind in row:
                    if behind in self.numbers:
                        found.setdefault(self.numbers[behind], (at, mark))
        return found

    def stopping(self):
        """For each inner course with an arrow to the other entry this arrow."""
        found = {}
        for number, at in enumerate(self.inner):
            for mark, behind in self.arrows[at]:
                if self.ways[behind] == "ahead" and self.far[behind] is not None:
                    found.setdefault(number, (mark, behind))
        return found

    def lengths(self):
        """The numbers of entries between both points that come."""
        nexts = [list({number: True for _, number in row}) for row in self.leads]
        return Lengths(nexts, list(self.first_arrows), list(self.last_arrows))

    def first_word(self, number):
        """A word to an inner course, up to the entry at which the first reader points."""
        at, mark = self.first_arrows[number]
        return word_to(self.ahead, at) + (mark,)

    def last_word(self, number):
        """A word from an inner course to the end, from the entry of the other reader on."""
        mark, at = self.last_arrows[number]
        word = [mark]
        while self.far[at] > 0:
            mark, at = min([
                arrow for arrow in self.arrows[at] if self.far[arrow[1]] == self.far[at] - 1
            ])
            word.append(mark)
        return tuple(word)
