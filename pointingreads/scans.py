"""Traces along the picks of sieves.

A trace guesses the right state behind the entries so far; so it knows at each entry whether it
is picked.
"""

from pointingreads.sifting import pairs_met
from pointingreads.twofold import hand_steps


def states_ahead(rights):
    """For each mark and each right state the right states from which the mark leads there."""
    found = [[[] for _ in rights] for _ in rights[0]]
    for right, row in enumerate(rights):
        for mark, ahead in enumerate(row):
            found[mark][ahead].append(right)
    return found


class Picks:
    """The tables of a least sieve, or of two least sieves with the same sorts side by side.

    flag(left, mark, right) has a bit for each sieve that picks the entry.
    """

    def __init__(self, sieves):
        one, two = sieves[0], sieves[-1]
        self.sorts = one[0]
        self.picks = [sieve[3] for sieve in sieves]
        self.left_pairs, self.lefts = pairs_met(one[1], two[1])
        self.right_pairs, self.rights = pairs_met(one[2], two[2])
        self.ahead = states_ahead(self.rights)

    def flag(self, left, mark, right):
        """The bits of the sieves that pick an entry."""
        flag = 0
        for number, pick in enumerate(self.picks):
            if pick[self.left_pairs[left][number]][mark][self.right_pairs[right][number]]:
                flag = flag | (1 << number)
        return flag

    def arrivals(self, left, right):
        """For each mark the triples (LEFT, RIGHT, FLAG): the states to which it leads."""
        return [
            [(self.lefts[left][mark], behind, self.flag(left, mark, behind)) for behind in row[right]]
            for mark, row in enumerate(self.ahead)
        ]


class Counted:
    """Wants the entries at which what was counted of the flags ahead of them is good.

    counts has for each count the next one by each flag, good the counts that are good; the
    count begins with 0.
    """

    def __init__(self, sieves, counts, good):
        self.table = Picks(sieves)
        self.sorts = self.table.sorts
        self.counts = counts
        self.good = good

    def starts(self):
        """The items of the empty row."""
        return [(0, right, 0) for right in range(len(self.table.rights))]

    def nexts(self, item):
        """For each mark where one goes by another entry, and where by the wanted one."""
        left, right, count = item
        found = []
        rows = self.table.arrivals(left, right)
        for row in rows:
            others = [(ahead, behind, self.counts[count][flag]) for ahead, behind, flag in row]
            wanted = [behind for _, behind, _ in row] if count in self.good else []
            found.append((others, wanted))
        return found

    def goes(self, item):
        """For each mark where one goes once the wanted entry has come."""
        return [row[item] for row in self.table.ahead]

    def is_right(self, item):
        """Whether the guess was right."""
        return item == 0


class Read:
    """Wants the entry at which a reader points that reads the row of the flags of a sieve."""

    def __init__(self, sieve, reader):
        self.table = Picks([sieve])
        self.sorts = sieve[0]
        self.steps = hand_steps(reader)
        self.points = reader[3]

    def starts(self):
        """The items of the empty row."""
        return [(0, right, 0, -1) for right in range(len(self.table.rights))]

    def nexts(self, item):
        """For each mark where one goes by another entry, and where by the wanted one."""
        left, right, stand, _ = item
        found = []
        rows = self.table.arrivals(left, right)
        for row in rows:
            others = []
            wanted = []
            for ahead, behind, flag in row:
                there, new, _ = self.steps[stand][flag]
                others.append((ahead, behind, there, -1))
                if new >= 0:
                    wanted.append((ahead, behind, there, new))
            found.append((others, wanted))
        return found

    def goes(self, item):
        """For each mark where one goes once the wanted entry has come."""
        left, right, stand, hand = item
        found = []
        rows = self.table.arrivals(left, right)
        for row in rows:
            told = [(ahead, behind) + self.steps[stand][flag] for ahead, behind, flag in row]
            found.append([
                (ahead, behind, there, keeps[hand])
                for ahead, behind, there, _, keeps in told if keeps[hand] >= 0
            ])
        return found

    def is_right(self, item):
        """Whether the entry is the point."""
        _, right, stand, hand = item
        return right == 0 and self.points[stand] == hand
