"""How many arrows the ways from some nodes to others can have, however many there are."""

from math import gcd

from pointingreads.borders import circles


def turned_bits(mask, many):
    """A mask of rests modulo many, all of them one greater."""
    return ((mask << 1) | (mask >> (many - 1))) & ((1 << many) - 1)


def spread_rests(nexts, masks, many):
    """Adds to the masks the rests, modulo many, with which ways from the masked nodes end."""
    todo = [node for node, mask in enumerate(masks) if mask > 0]
    while todo:
        node = todo.pop()
        mask = turned_bits(masks[node], many)
        for behind in nexts[node]:
            if masks[behind] | mask != masks[behind]:
                masks[behind] = masks[behind] | mask
                todo.append(behind)


def circle_period(nexts, circle, start):
    """The greatest number that divides the lengths of all ways back to the start, 0 if there is none."""
    level = {start: 0}
    reached = [start]
    period = 0
    at = 0
    while at < len(reached):
        node = reached[at]
        for behind in nexts[node]:
            if circle[behind] == circle[start]:
                if behind in level:
                    period = gcd(period, level[node] + 1 - level[behind])
                else:
                    level[behind] = level[node] + 1
                    reached.append(behind)
        at += 1
    return period


def circle_periods(nexts):
    """For each node the period of its circle, 0 if no way leads back to it."""
    circle = circles([[(0, behind) for behind in row] for row in nexts])
    known = {}
    for node, number in enumerate(circle):
        if number not in known:
            known[number] = circle_period(nexts, circle, node)
    return [known[number] for number in circle]


def rests_told(nexts, starts):
    """For each period of circles the rests, as masks, with which long ways end at each node."""
    periods = circle_periods(nexts)
    found = {}
    for many in sorted(set(periods)):
        if many > 0:
            first = [0] * len(nexts)
            for node in starts:
                first[node] = 1
            spread_rests(nexts, first, many)
            # a way that comes to such a circle can be made longer by any great multiple of many
            masks = [mask if period == many else 0 for mask, period in zip(first, periods)]
            spread_rests(nexts, masks, many)
            found[many] = masks
    return found


class Lengths:
    """The numbers of arrows of the ways from starts to ends.

    Each node has to be on such a way. comes tells for each number of arrows, from 0 on, whether
    a way has it; from its end on, if steady, the rests tell it.
    """

    def __init__(self, nexts, starts, ends):
        self.leads = nexts
        self.rests = rests_told(nexts, starts)
        self.ends = {node: True for node in ends}
        self.end_rests = []
        for many in self.rests:
            mask = 0
            for node in ends:
                mask = mask | self.rests[many][node]
            self.end_rests.append((many, mask))
        self.layer = list({node: True for node in starts})
        self.comes = []
        self.steady = False

    def told(self, many):
        """Whether the rests tell that a way has so many arrows."""
        return any([mask >> (many % period) & 1 == 1 for period, mask in self.end_rests])

    def is_told(self, node, many):
        """Whether the rests tell that a way with so many arrows ends at a node."""
        return any([self.rests[period][node] >> (many % period) & 1 == 1 for period in self.rests])

    def grow(self):
        """Looks at one more number of arrows."""
        many = len(self.comes)
        layer = self.layer
        self.comes.append(any([node in self.ends for node in layer]))
        # once the ends of ways are as the rests tell, they are so for all greater numbers
        if many & (many - 1) == 0:
            known = {node: True for node in layer}
            alike = [(node in known) == self.is_told(node, many) for node in range(len(self.leads))]
            self.steady = all(alike)
        self.layer = list({behind: True for node in layer for behind in self.leads[node]})

    def has(self, many):
        """Whether a way has so many arrows."""
        while len(self.comes) <= many and not self.steady:
            self.grow()
        return self.comes[many] if many < len(self.comes) else self.told(many)

    def least(self):
        """The least number of arrows, None if there is no way."""
        if self.leads == []:
            return None
        many = 0
        while not self.has(many):
            many += 1
        return many

    def greatest(self):
        """The greatest number of arrows, None if there is none."""
        if self.leads == [] or self.end_rests != []:
            return None
        while not self.steady:
            self.grow()
        return max([many for many, comes in enumerate(self.comes) if comes])
