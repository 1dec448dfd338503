"""The least row behind which a pattern of two readers stands, searched from both ends.

From the first pattern on there may be very many patterns, and backwards from the one that is
wanted as well; often there are few in one of the two directions. So both are gone, a layer of
the one with fewer things at a time, until one of them tells the answer.
"""

from pointingreads.searching import word_to
from pointingreads.twofold import stands_together


class Forward:
    """The patterns behind rows, the least rows first."""

    def __init__(self, begin, nexts):
        self.follow = nexts
        self.order = [begin]
        self.ahead = [None]
        self.seen = {begin: 0}
        self.done = 0

    def waiting(self):
        """How many patterns the next layer comes from."""
        return len(self.order) - self.done

    def grow(self):
        """Goes one mark further."""
        last = len(self.order)
        nexts = self.follow
        while self.done < last:
            things = nexts(self.order[self.done])
            for mark, thing in enumerate(things):
                if thing not in self.seen:
                    self.seen[thing] = len(self.order)
                    self.order.append(thing)
                    self.ahead.append((self.done, mark))
            self.done += 1

    def least_word(self, thing):
        """The least word to a pattern that has been met, otherwise None."""
        if thing not in self.seen:
            return None
        return word_to(self.ahead, self.seen[thing])


def hands_ahead(holds, keep, other_keep):
    """Where the entries of a pattern are ahead of a step, those that are there; None if none can be.

    A hand -1 may hold anything there. Only the last entry can be the new one.
    """
    found = []
    for place, (hand, other_hand) in enumerate(holds):
        old = None if hand < 0 else keep[hand]
        other_old = None if other_hand < 0 else other_keep[other_hand]
        if old == -1 or other_old == -1:
            if place < len(holds) - 1 or (old is not None and other_old is not None and old != other_old):
                return None
        else:
            found.append((-1 if old is None else old, -1 if other_old is None else other_old))
    return tuple(found)


class Backward:
    """What has to be held ahead of some marks for the wanted pattern to stand behind them."""

    def __init__(self, reader, other, pattern):
        self.reader = reader
        self.other = other
        self.pattern = pattern
        self.pairs = pairs_ahead(reader, other)
        self.layer = [pattern]
        self.far = {pattern: 0}
        self.onward = {}
        self.many = 0

    def waiting(self):
        """How many things the next layer comes from."""
        return len(self.layer)

    def grow(self):
        """Goes one mark further back."""
        found = []
        self.many += 1
        layer = self.layer
        for thing in layer:
            for ahead, mark in self.things_ahead(thing):
                if ahead not in self.far:
                    self.far[ahead] = self.many
                    self.onward[ahead] = []
                    found.append(ahead)
                if self.far[ahead] == self.many:
                    self.onward[ahead].append((mark, thing))
        self.layer = found

    def things_ahead(self, thing):
        """All pairs of a thing and a mark that lead to a thing."""
        stand, other_stand, holds = thing
        found = []
        for ahead, other_ahead, mark in self.pairs.get((stand, other_stand), []):
            keep = self.reader[2][ahead][mark][1]
            other_keep = self.other[2][other_ahead][mark][1]
            told = hands_ahead(holds, keep, other_keep)
            if told is not None:
                found.append(((ahead, other_ahead, told), mark))
        return found

    def least_word(self, begin):
        """The least word from the beginning to the pattern, None if it has not been met."""
        if begin not in self.far:
            return None
        word = []
        group = [begin]
        for _ in range(self.far[begin]):
            arrows = [arrow for thing in group for arrow in self.onward[thing]]
            mark = min([arrow[0] for arrow in arrows])
            word.append(mark)
            group = list({behind: True for told, behind in arrows if told == mark})
        return tuple(word)


def pairs_ahead(reader, other):
    """For each pair of stands that come together the triples (STAND, OTHER_STAND, MARK) ahead of it."""
    order, moves = stands_together(reader, other)
    found = {}
    for (stand, other_stand), row in zip(order, moves):
        for mark, number in enumerate(row):
            found.setdefault(order[number], []).append((stand, other_stand, mark))
    return found


def pattern_word(reader, other, pattern, nexts):
    """The least row behind which a pattern stands, or None."""
    begin = (0, 0, ())
    forward = Forward(begin, nexts)
    backward = Backward(reader, other, pattern)
    while forward.waiting() > 0 and backward.waiting() > 0:
        word = forward.least_word(pattern)
        if word is None:
            word = backward.least_word(begin)
        if word is not None:
            return word
        if forward.waiting() <= backward.waiting():
            forward.grow()
        else:
            backward.grow()
    word = forward.least_word(pattern)
    return backward.least_word(begin) if word is None else word
