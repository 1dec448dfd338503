"""What is held along a row if the first or the last pick of a sieve is to be pointed at.

A configuration is a pair (LEFT, HOLDS): the left state, and for each right state the hand with
the entry that is pointed at if that right state is behind the row, or None.
"""

from pointingreads.borders import behind_arrows, border
from pointingreads.routes import least_routes


def hands_in(one):
    """How many hands a configuration has."""
    return 1 + max([-1 if hand is None else hand for hand in one[1]])


def pointed_in(one):
    """The hand that is pointed at behind the row itself."""
    return -1 if one[1][0] is None else one[1][0]


def handed(left, holds, order):
    """A configuration with its hands numbered as they come in an order, and what they keep.

    holds has for each right state an old hand, -1 for the new entry, or None.
    """
    keep = []
    numbers = {}
    for right in order:
        hold = holds[right]
        if hold is not None and hold not in numbers:
            numbers[hold] = len(keep)
            keep.append(hold)
    told = tuple([None if hold is None else numbers[hold] for hold in holds])
    return (left, told), tuple(keep)


def couples(many):
    """All pairs of left states, the lesser one first, also of one with itself."""
    return [(left, other) for left in range(many) for other in range(left, many)]


def sorted_couple(left, other):
    """The pair of two left states, the lesser one first."""
    return (left, other) if left <= other else (other, left)


def couples_ahead(lefts):
    """For each pair of left states the pairs (pair, mark) that lead to it."""
    found = {couple: [] for couple in couples(len(lefts))}
    for left, other in couples(len(lefts)):
        for mark, behind in enumerate(lefts[left]):
            found[sorted_couple(behind, lefts[other][mark])].append(((left, other), mark))
    return found


def spread_back(sieve, marked):
    """Adds to marked all (pair, right) from which an entry that neither picks leads to it.

    marked is a dict from (pair, right) with what is so at first; pairs are of left states.
    """
    _, lefts, rights, pick = sieve
    ahead = couples_ahead(lefts)
    todo = list(marked)
    while todo:
        couple, right = todo.pop()
        for other, mark in ahead[couple]:
            item = (other, rights[right][mark])
            quiet = not (pick[other[0]][mark][right] or pick[other[1]][mark][right])
            if quiet and item not in marked:
                marked[item] = True
                todo.append(item)


def word_order(rights):
    """The right states by the least words that lead to them from the end."""
    _, ranks = least_routes(behind_arrows(rights), [0])
    return [right for _, right in sorted([(rank, right) for right, rank in enumerate(ranks)])]


class FirstPicks:
    """Configurations for the first pick of a least sieve."""

    def __init__(self, sieve):
        self.sieve = sieve
        self.order = word_order(sieve[2])
        self.apart = first_apart(sieve)

    def begin(self):
        """The configuration of the empty row."""
        return (0, (None,) * len(self.sieve[2]))

    def grown(self, one, mark):
        """The configuration behind a mark, and what its hands keep."""
        _, lefts, rights, pick = self.sieve
        left, holds = one
        found = []
        for right, row in enumerate(rights):
            hold = holds[row[mark]]
            if hold is None and pick[left][mark][right]:
                hold = -1
            found.append(hold)
        return handed(lefts[left][mark], found, self.order)

    def mould(self, one):
        """What alike configurations have in common."""
        return one[1]

    def alike(self, one, other):
        """Whether two configurations with the same hands are alike."""
        couple = sorted_couple(one[0], other[0])
        # the left states matter only where nothing that is held is pointed at
        return not any([
            hand is None and (couple, right) in self.apart for right, hand in enumerate(one[1])
        ])

    def hands(self, one):
        """How many hands there are."""
        return hands_in(one)

    def hand_pointed(self, one):
        """The hand that is pointed at."""
        return pointed_in(one)


def first_apart(sieve):
    """All (pair, right) with a word from which both left states have unlike first picks.

    The right state is the one that the word leads to from the end.
    """
    _, lefts, rights, pick = sieve
    found = {}
    for left, other in couples(len(lefts)):
        for right, row in enumerate(rights):
            for mark, ahead in enumerate(row):
                if pick[left][mark][right] != pick[other][mark][right]:
                    found[((left, other), ahead)] = True
    spread_back(sieve, found)
    return found


class LastPicks:
    """Configurations for the last pick of a least sieve."""

    def __init__(self, sieve):
        self.sieve = sieve
        self.quiet = quiet_words(sieve)
        self.ranks = quiet_ranks(sieve)
        self.first = first_alike(sieve, self.quiet)

    def begin(self):
        """The configuration of the empty row."""
        return (0, (None,) * len(self.sieve[2]))

    def grown(self, one, mark):
        """The configuration behind a mark, and what its hands keep."""
        _, lefts, rights, pick = self.sieve
        left, holds = one
        behind = lefts[left][mark]
        found = [None] * len(rights)
        order = []
        for right, row in enumerate(rights):
            if ((behind, behind), right) in self.quiet:
                found[right] = -1 if pick[left][mark][right] else holds[row[mark]]
                order.append((self.ranks[border(self.sieve, behind, right)], right))
        return handed(self.first[behind], found, [right for _, right in sorted(order)])

    def mould(self, one):
        """What alike configurations have in common."""
        return one

    def alike(self, one, other):
        """Whether two configurations with the same mould are alike."""
        return one == other

    def hands(self, one):
        """How many hands there are."""
        return hands_in(one)

    def hand_pointed(self, one):
        """The hand that is pointed at."""
        return pointed_in(one)


def quiet_words(sieve):
    """All (pair, right) with a word of which nothing is picked from both left states."""
    found = {(couple, 0): True for couple in couples(len(sieve[1]))}
    spread_back(sieve, found)
    return found


def quiet_ranks(sieve):
    """The ranks of the least words of which nothing is picked, by borders."""
    _, lefts, rights, pick = sieve
    arrows = [[] for _ in range(len(lefts) * len(rights))]
    for left, row in enumerate(lefts):
        for right, aheads in enumerate(rights):
            for mark, behind in enumerate(row):
                if not pick[left][mark][right]:
                    at = border(sieve, left, aheads[mark])
                    arrows[at].append((mark, border(sieve, behind, right)))
    _, ranks = least_routes(arrows, [border(sieve, left, 0) for left in range(len(lefts))])
    return ranks


def last_parted(sieve, quiet):
    """All pairs of left states from which some word has unlike last picks."""
    _, lefts, rights, pick = sieve
    found = {}
    for couple in couples(len(lefts)):
        for mark in range(sieve[0]):
            behind = sorted_couple(lefts[couple[0]][mark], lefts[couple[1]][mark])
            for right in range(len(rights)):
                unlike = pick[couple[0]][mark][right] != pick[couple[1]][mark][right]
                if unlike and (behind, right) in quiet:
                    found[couple] = True
    ahead = couples_ahead(lefts)
    todo = list(found)
    while todo:
        couple = todo.pop()
        for other, _ in ahead[couple]:
            if other not in found:
                found[other] = True
                todo.append(other)
    return found


def first_alike(sieve, quiet):
    """For each left state the first one from which all words have the same last picks."""
    parted = last_parted(sieve, quiet)
    many = len(sieve[1])
    return [
        min([other for other in range(left + 1) if (other, left) not in parted])
        for left in range(many)
    ]
