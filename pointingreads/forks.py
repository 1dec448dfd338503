"""Two copies of a reader: one reads a row, the other one the same row behind one change.

A fork is a tuple (STAGE, STAND, OTHER_STAND, HAND, OTHER_HAND, BEFORE, AFTER). STAGE is "ahead" of
the change or "behind" it, or the first mark of a turn. HAND has the entry at which the one copy
will point at the end, OTHER_HAND that of the other copy, -1 where there is none yet; BEFORE and
AFTER name these entries as an outcome does, "none" where there is none yet.
"""

from pointingreads.folding import folded
from pointingreads.searching import least_words
from pointingreads.twofold import hand_steps

START = ("ahead", 0, 0, -1, -1, "none", "none")


def outcomes_known(kind):
    """All outcomes that a change of this kind can have."""
    befores = {
        "lost": ("none", "it", "other"), "put": ("none", "other"),
        "turned": ("none", "left", "right", "other"), "marked": ("none", "it", "other")}
    afters = {
        "lost": ("none", "other"), "put": ("none", "it", "other"),
        "turned": ("none", "left", "right", "other"), "marked": ("none", "it", "other")}
    found = [(before, after) for before in befores[kind] for after in afters[kind]]
    return sorted(found + [("other", "same")])


class Forks:
    """The forks of a reader for changes of one kind; lost has the marks of what may be lost, None is all."""

    def __init__(self, reader, kind, lost=None):
        least = folded(reader)
        self.kind = kind
        self.mark_list = list(range(least[0]))
        self.lost = self.mark_list if lost is None else lost
        self.steps = hand_steps(least)
        self.points = least[3]

    def starts(self):
        """The forks of the empty row."""
        return self.with_put([START])

    def nexts(self, fork):
        """For each mark the forks to which one goes."""
        return [self.behind(fork, mark) for mark in self.mark_list]

    def behind(self, fork, mark):
        """The forks behind one mark."""
        stage = fork[0]
        entry = [(mark, "other")]
        if stage == "behind":
            return self.read(fork, "behind", entry, entry)
        if stage != "ahead":
            left, right = (stage, "left"), (mark, "right")
            return self.read(fork, "behind", [left, right], [right, left])
        found = self.with_put(self.read(fork, "ahead", entry, entry))
        if self.kind == "lost" and mark in self.lost:
            found = found + self.read(fork, "behind", [(mark, "it")], [])
        if self.kind == "turned":
            found.append((mark,) + fork[1:])
        if self.kind == "marked":
            for other in self.mark_list:
                found = found + self.read(fork, "behind", [(mark, "it")], [(other, "it")])
        return found

    def with_put(self, forks):
        """The forks, and those behind the put of an entry, which is none of the row's."""
        found = list(forks)
        if self.kind == "put":
            for fork in forks:
                for mark in self.mark_list:
                    found = found + self.read(fork, "behind", [], [(mark, "it")])
        return found

    def read(self, fork, stage, entries, other_entries):
        """The forks behind some entries, pairs (mark, name), that the two copies read."""
        _, stand, other_stand, hand, other_hand, before, after = fork
        stand, choices = self.read_one(stand, hand, before, entries)
        other_stand, other_choices = self.read_one(other_stand, other_hand, after, other_entries)
        found = []
        for name, place in choices:
            for other_name, other_place in other_choices:
                # both have come just now, and not with the change: it is one entry
                if name == "other" and before == "none" and other_name == "other" and after == "none":
                    other_name = "same"
                found.append((stage, stand, other_stand, place, other_place, name, other_name))
        return found

    def read_one(self, stand, hand, name, entries):
        """The stand of one copy behind some entries, and pairs (name, hand) of what it may point at."""
        held = [(name, hand)]
        for mark, told in entries:
            stand, new, goes = self.steps[stand][mark]
            held = [(one, goes[at] if at >= 0 else -1) for one, at in held]
            if name == "none":
                held.append((told, new))
        return stand, [(one, at) for one, at in held if one == "none" or at >= 0]

    def outcome(self, fork):
        """The outcome if the fork is right at the end of the row, otherwise None."""
        stage, stand, other_stand, hand, other_hand, before, after = fork
        if stage == "behind" and self.points[stand] == hand and self.points[other_stand] == other_hand:
            return (before, after)
        return None


def outcome_words(reader, kind, wanted):
    """The least rows with the wanted outcomes, as far as they come: a dict."""
    forks = Forks(reader, kind)
    return least_words(forks.starts(), forks.nexts, forks.outcome, wanted)
