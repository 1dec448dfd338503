"""Entries whose loss changes the point, and what other marks would do."""

from pointingreads.checks import is_whole
from pointingreads.errors import BadMark
from pointingreads.folding import folded
from pointingreads.forks import Forks
from pointingreads.outcomes import outcome_of
from pointingreads.places import need_entry
from pointingreads.readers import need_fit, need_reader
from pointingreads.traced import sieve_traced
from pointingreads.twofold import hand_steps

# the outcomes of a loss that leaves the point
LEFT = (("none", "none"), ("other", "same"))


def is_critical(reader, row, place):
    """Whether the entry at the place is critical."""
    need_fit(reader, row)
    need_entry(row, place)
    return outcome_of(reader, row, ("lost", place)) not in LEFT


class Losses:
    """Wants the entries whose loss changes the point."""

    def __init__(self, reader):
        self.sorts = reader[0]
        self.forks = Forks(reader, "lost")

    def starts(self):
        """The items of the empty row."""
        return self.forks.starts()

    def nexts(self, item):
        """For each mark where one goes by another entry, and where by the wanted one."""
        return [
            ([fork for fork in row if fork[0] == "ahead"], [fork for fork in row if fork[0] == "behind"])
            for row in self.forks.nexts(item)
        ]

    def goes(self, item):
        """For each mark where one goes once the wanted entry has come."""
        return self.forks.nexts(item)

    def is_right(self, item):
        """Whether the loss of the entry changes the point."""
        outcome = self.forks.outcome(item)
        return outcome is not None and outcome not in LEFT


def critical_sieve(reader):
    """The least sieve that picks the critical entries."""
    need_reader(reader)
    return sieve_traced(Losses(reader))


class Marked:
    """Wants the entries at which a least reader points if they get a mark themselves.

    An item is (STAND, HAND), HAND -1 ahead of the wanted entry.
    """

    def __init__(self, reader, mark):
        self.sorts = reader[0]
        self.steps = hand_steps(reader)
        self.points = reader[3]
        self.new_mark = mark

    def starts(self):
        """The items of the empty row."""
        return [(0, -1)]

    def nexts(self, item):
        """For each mark where one goes by another entry, and where by the wanted one."""
        row = self.steps[item[0]]
        stand, new, _ = row[self.new_mark]
        wanted = [(stand, new)] if new >= 0 else []
        return [([(step[0], -1)], wanted) for step in row]

    def goes(self, item):
        """For each mark where one goes once the wanted entry has come."""
        stand, hand = item
        return [[(behind, keeps[hand])] if keeps[hand] >= 0 else [] for behind, _, keeps in self.steps[stand]]

    def is_right(self, item):
        """Whether the wanted entry is the point."""
        stand, hand = item
        return self.points[stand] == hand


def marked_sieve(reader, mark):
    """The least sieve that picks the entries that would be the point if they got the mark."""
    need_reader(reader)
    if not is_whole(mark, 0, reader[0] - 1):
        raise BadMark(mark)
    return sieve_traced(Marked(folded(reader), mark))
