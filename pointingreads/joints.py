"""Traces of the points of readers put together."""

from pointingreads.twofold import START, Courses, hand_steps

ONE_COME = ("first", "same", "ahead", "behind")
TWO_COME = ("second", "same", "ahead", "behind")


def hand_behind(step, hand):
    """The hand that has the entry of a hand behind a step, -1 if none has it or there was none."""
    return step[2][hand] if hand >= 0 else -1


class Chosen:
    """Wants the point of one of two least readers, as the relation of both points tells.

    choices is a dict from relations to 0 (the point of the first reader) or 1.
    """

    def __init__(self, reader, other, choices):
        self.sorts = reader[0]
        self.courses = Courses(reader, other, False)
        self.choices = choices

    def starts(self):
        """The items of the empty row."""
        return [(which, START) for which in (0, 1) if which in list(self.choices.values())]

    def nexts(self, item):
        """For each mark where one goes by another entry, and where by the wanted one."""
        which, course = item
        found = []
        rows = self.courses.nexts(course)
        for row in rows:
            comes = [one[4] in (ONE_COME, TWO_COME)[which] for one in row]
            found.append((
                [(which, one) for one, come in zip(row, comes) if not come],
                [(which, one) for one, come in zip(row, comes) if come]))
        return found

    def goes(self, item):
        """For each mark where one goes once the wanted entry has come."""
        which, course = item
        return [[(which, one) for one in row] for row in self.courses.nexts(course)]

    def is_right(self, item):
        """Whether the wanted entry is the chosen point."""
        which, course = item
        return self.choices.get(self.courses.relation(course)) == which


class Decided:
    """Wants the point of one reader if a deciding reader has a point, otherwise that of another one.

    Each of the two may be None: then there is no point.
    """

    def __init__(self, decider, reader, other):
        self.sorts = decider[0]
        self.decider = decider
        self.readers = (reader, other)
        self.steps = [None if one is None else hand_steps(one) for one in self.readers]

    def starts(self):
        """The items of the empty row."""
        return [(which, 0, 0, -1) for which in (0, 1) if self.readers[which] is not None]

    def behind(self, item, mark):
        """Where the item goes by another entry, and the hand with the new one."""
        which, decided, stand, hand = item
        step = self.steps[which][stand][mark]
        return (which, self.decider[2][decided][mark][0], step[0], hand_behind(step, hand)), step[1]

    def nexts(self, item):
        """For each mark where one goes by another entry, and where by the wanted one."""
        found = []
        for mark in range(self.sorts):
            behind, new = self.behind(item, mark)
            found.append(([behind], [behind[:3] + (new,)] if new >= 0 else []))
        return found

    def goes(self, item):
        """For each mark where one goes once the wanted entry has come."""
        behinds = [self.behind(item, mark)[0] for mark in range(self.sorts)]
        return [[behind] if behind[3] >= 0 else [] for behind in behinds]

    def is_right(self, item):
        """Whether the wanted entry is the point."""
        which, decided, stand, hand = item
        pointless = self.decider[3][decided] < 0
        return pointless == (which == 1) and self.readers[which][3][stand] == hand


class Parted:
    """Two readers, of which the other one reads a part of the row that the first one tells.

    An item is (STAND, HAND, OTHER_STAND, OTHER_HAND); a hand is -1 as long as its entry is to come.
    """

    def __init__(self, reader, other):
        self.sorts = reader[0]
        self.steps = hand_steps(reader)
        self.other_steps = hand_steps(other)
        self.points = reader[3]
        self.other_points = other[3]

    def starts(self):
        """The items of the empty row."""
        return [(0, -1, 0, -1)]


class Behind(Parted):
    """Wants the point of the other reader in the part behind the point of a reader."""

    def behind(self, item, mark):
        """The items of the entries but the wanted one, and that of the wanted one, if there are any."""
        stand, hand, other_stand, other_hand = item
        step = self.steps[stand][mark]
        if hand < 0:
            found = [(step[0], -1, 0, -1)]
            if step[1] >= 0:
                found.append((step[0], step[1], 0, -1))
            return found, []
        other = self.other_steps[other_stand][mark]
        hand, there = hand_behind(step, hand), hand_behind(other, other_hand)
        # an entry that is let go is not pointed at in the end
        if hand < 0 or (other_hand >= 0 and there < 0):
            return [], []
        wanted = [(step[0], hand, other[0], other[1])] if other[1] >= 0 else []
        return [(step[0], hand, other[0], there)], wanted

    def nexts(self, item):
        """For each mark where one goes by another entry, and where by the wanted one."""
        return [self.behind(item, mark) for mark in range(self.sorts)]

    def goes(self, item):
        """For each mark where one goes once the wanted entry has come."""
        return [self.behind(item, mark)[0] for mark in range(self.sorts)]

    def is_right(self, item):
        """Whether both entries are the points."""
        stand, hand, other_stand, other_hand = item
        return self.points[stand] == hand and self.other_points[other_stand] == other_hand


class Ahead(Parted):
    """Wants the point of the other reader in the part ahead of the point of a reader.

    OTHER_STAND is -1 from the reader's point on.
    """

    def nexts(self, item):
        """For each mark where one goes by another entry, and where by the wanted one."""
        stand, _, other_stand, _ = item
        found = []
        for step, other in zip(self.steps[stand], self.other_steps[other_stand]):
            behind = (step[0], -1, other[0], -1)
            found.append(([behind], [behind[:3] + (other[1],)] if other[1] >= 0 else []))
        return found

    def goes(self, item):
        """For each mark where one goes once the wanted entry has come."""
        stand, hand, other_stand, other_hand = item
        found = []
        for mark, step in enumerate(self.steps[stand]):
            told = []
            if other_stand < 0:
                if step[2][hand] >= 0:
                    told.append((step[0], step[2][hand], -1, -1))
            else:
                other = self.other_steps[other_stand][mark]
                if other[2][other_hand] >= 0:
                    told.append((step[0], -1, other[0], other[2][other_hand]))
                if step[1] >= 0 and self.other_points[other_stand] == other_hand:
                    told.append((step[0], step[1], -1, -1))
            found.append(told)
        return found

    def is_right(self, item):
        """Whether both entries are the points."""
        stand, hand, other_stand, _ = item
        return other_stand < 0 and self.points[stand] == hand


class Between:
    """Wants the point of a third reader in the part between the points of two.

    An item is (STAND, HAND, SECOND_STAND, SECOND_HAND, THIRD_STAND, THIRD_HAND); THIRD_STAND is
    -1 ahead of the first point and from the second one on.
    """

    def __init__(self, readers):
        self.sorts = readers[0][0]
        self.steps = [hand_steps(reader) for reader in readers]
        self.points = [reader[3] for reader in readers]

    def starts(self):
        """The items of the empty row."""
        return [(0, -1, 0, -1, -1, -1)]

    def behind(self, item, mark):
        """The items of the entries but the wanted one, and that of the wanted one, if there are any."""
        stand, hand, second, second_hand, third, third_hand = item
        step = self.steps[0][stand][mark]
        second_step = self.steps[1][second][mark]
        hands = (hand_behind(step, hand), hand_behind(second_step, second_hand))
        if (hand >= 0 and hands[0] < 0) or (second_hand >= 0 and hands[1] < 0):
            return [], []
        if hand >= 0 and second_hand >= 0:
            return [(step[0], hands[0], second_step[0], hands[1], -1, -1)], []
        if hand < 0 and second_hand < 0:
            others = [(step[0], -1, second_step[0], -1, -1, -1)]
            if step[1] >= 0:
                others.append((step[0], step[1], second_step[0], -1, 0, -1))
            if second_step[1] >= 0:
                others.append((step[0], -1, second_step[0], second_step[1], 0, -1))
            return others, []
        third_step = self.steps[2][third][mark]
        there = hand_behind(third_step, third_hand)
        one = (step[0], hands[0], second_step[0], hands[1], third_step[0])
        others = [one + (there,)] if third_hand < 0 or there >= 0 else []
        # the other one of both points ends the part
        if third_hand >= 0 and self.points[2][third] == third_hand:
            if hand < 0 and step[1] >= 0:
                others.append((step[0], step[1]) + one[2:4] + (-1, -1))
            if second_hand < 0 and second_step[1] >= 0:
                others.append(one[:3] + (second_step[1], -1, -1))
        return others, [one + (third_step[1],)] if third_hand < 0 and third_step[1] >= 0 else []

    def nexts(self, item):
        """For each mark where one goes by another entry, and where by the wanted one."""
        return [self.behind(item, mark) for mark in range(self.sorts)]

    def goes(self, item):
        """For each mark where one goes once the wanted entry has come."""
        return [self.behind(item, mark)[0] for mark in range(self.sorts)]

    def is_right(self, item):
        """Whether all entries are the points."""
        stand, hand, second, second_hand, third, _ = item
        both = hand >= 0 and second_hand >= 0 and third < 0
        return both and self.points[0][stand] == hand and self.points[1][second] == second_hand


class Mirrored:
    """Wants the point of a least reader in the row read from the last entry to the first.

    An item is (STAND, HAND): the entries to come, read from the last one on, are guessed to lead
    to STAND; HAND is the one whose entry is pointed at behind those so far, -1 once that has come.
    """

    def __init__(self, reader):
        self.sorts = reader[0]
        self.points = reader[3]
        self.ahead = [[[] for _ in reader[1]] for _ in range(reader[0])]
        for stand, row in enumerate(reader[2]):
            for mark, (behind, keep) in enumerate(row):
                self.ahead[mark][behind].append((stand, keep))

    def starts(self):
        """The items of the empty row."""
        return [(stand, hand) for stand, hand in enumerate(self.points) if hand >= 0]

    def nexts(self, item):
        """For each mark where one goes by another entry, and where by the wanted one."""
        stand, hand = item
        found = []
        for row in self.ahead:
            told = [(behind, keep[hand]) for behind, keep in row[stand]]
            found.append(([one for one in told if one[1] >= 0], [one for one in told if one[1] < 0]))
        return found

    def goes(self, item):
        """For each mark where one goes once the wanted entry has come."""
        return [[(behind, -1) for behind, _ in row[item[0]]] for row in self.ahead]

    def is_right(self, item):
        """Whether the guess was right."""
        return item == (0, -1)
