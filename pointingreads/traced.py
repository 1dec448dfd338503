"""Least readers and least sieves of what a trace wants."""

from pointingreads.errors import TooGreat
from pointingreads.glimpses import shows_more
from pointingreads.growing import MOST_STANDS, reader_grown
from pointingreads.machines import machine_of, moved_by, names_of, nodes_met, turned_machine
from pointingreads.routes import least_routes
from pointingreads.sifting import MOST_STATES

# with so many tests of rows to come most great things are found to be too great; None is all
TESTS = (60, 600, None)
MOST_SEEN = 50000
MANY_NODES = 20000


def sum_of_names(names, items):
    """The sum of the names of items."""
    total = 0
    for item in items:
        total = total ^ names[item]
    return total


def shows_many(start, nexts, name_of, most):
    """Whether more unlike names than most are found; nexts(thing) tells for each mark the thing behind it."""
    seen = [start]
    known = {start: True}
    names = {}
    at = 0
    while at < len(seen) < MOST_SEEN and len(names) <= most:
        names[name_of(seen[at])] = True
        things = nexts(seen[at])
        for thing in things:
            if thing not in known:
                known[thing] = True
                seen.append(thing)
        at += 1
    return len(names) > most


class Pointed:
    """What is held along a row if the entry that a machine wants is to be pointed at.

    A configuration is a pair (ITEMS, HELD): the items of an entry that is still to come, and
    for each entry that may be the wanted one its items, in the order of the hands.
    """

    def __init__(self, machine, most):
        self.machine = machine
        self.names, self.come_names, self.whole = names_of(machine, most)
        self.goals = {item: True for item in machine.goal}
        arrows = [
            [(mark, behind) for mark, rows in enumerate(machine.after) for behind in rows[item]]
            for item in range(len(machine.after[0]))
        ]
        _, self.ranks = least_routes(arrows, machine.goal)

    def begin(self):
        """The configuration of the empty row."""
        return (self.machine.start, ())

    def grown(self, one, mark):
        """The configuration behind a mark, and what its hands keep."""
        items, held = one
        behinds = [moved_by(self.machine.born[mark], items)]
        behinds.extend([moved_by(self.machine.after[mark], told) for told in held])
        found = sorted([
            (min([self.ranks[item] for item in told]), hand - 1, told)
            for hand, told in enumerate(behinds) if told
        ])
        behind = moved_by(self.machine.stays[mark], items)
        return (behind, tuple([told for _, _, told in found])), tuple([hand for _, hand, _ in found])

    def nexts(self, one):
        """For each mark the configuration behind it."""
        return [self.grown(one, mark)[0] for mark in range(len(self.machine.stays))]

    def mould(self, one):
        """What configurations have in common exactly if they are alike."""
        held = sorted([sum_of_names(self.come_names, items) for items in one[1]])
        return (sum_of_names(self.names, one[0]), tuple(held))

    def alike(self, one, other):
        """Whether two configurations with the same mould are alike."""
        return True

    def hands(self, one):
        """How many hands a configuration has."""
        return len(one[1])

    def hand_pointed(self, one):
        """The hand that is pointed at."""
        pointed = [
            hand for hand, items in enumerate(one[1]) if any([item in self.goals for item in items])
        ]
        return pointed[0] if pointed else -1


def machine_told(trace, most, with_row):
    """The machine of a trace; TooGreat(most) if short rows show that it has too many classes."""
    nodes = nodes_met(trace, MANY_NODES)
    if nodes is None:
        if shows_more(trace, most, with_row):
            raise TooGreat(most)
        nodes = nodes_met(trace, None)
    return machine_of(trace, nodes)


def reader_traced(trace):
    """The least reader that points at the wanted entry, of which a row has at most one.

    TooGreat(200), then TooGreat(8).
    """
    machine = machine_told(trace, MOST_STANDS, True)
    for most in TESTS:
        picks = Pointed(machine, most)
        if picks.whole:
            break
        # what some tests tell apart is unlike
        if shows_many(picks.begin(), picks.nexts, picks.mould, MOST_STANDS):
            raise TooGreat(MOST_STANDS)
    return reader_grown(trace.sorts, picks)


def states_met(machine, names):
    """The unlike states behind all rows, the items of a row of each, and their table; TooGreat(64)."""
    known = [machine.start]
    numbers = {sum_of_names(names, machine.start): 0}
    table = []
    while len(table) < len(known):
        row = []
        for rows in machine.stays:
            behind = moved_by(rows, known[len(table)])
            name = sum_of_names(names, behind)
            if name not in numbers:
                numbers[name] = len(known)
                known.append(behind)
            row.append(numbers[name])
        table.append(tuple(row))
        if len(known) > MOST_STATES:
            raise TooGreat(MOST_STATES)
    return known, tuple(table)


def states_told(machine):
    """The states of a machine, the items of a row of each, and their table; TooGreat(64)."""
    for most in TESTS:
        names, _, whole = names_of(machine, most)
        if whole:
            break
        many = shows_many(
            machine.start,
            lambda items: [moved_by(rows, items) for rows in machine.stays],
            lambda items: sum_of_names(names, items),
            MOST_STATES)
        if many:
            raise TooGreat(MOST_STATES)
    return states_met(machine, names)


def are_odd(items, others):
    """Whether an odd number of the items is among others, a dict."""
    return len([item for item in items if item in others]) & 1 == 1


def sieve_traced(trace):
    """The least sieve that picks the wanted entries, any number of them in a row; TooGreat(64)."""
    machine = machine_told(trace, MOST_STATES, False)
    lefts, left_table = states_told(machine)
    rights, right_table = states_told(turned_machine(machine))
    tables = [{item: True for item in right} for right in rights]
    pick = []
    for left in lefts:
        wanted = [moved_by(rows, left) for rows in machine.born]
        pick.append(tuple([tuple([are_odd(items, table) for table in tables]) for items in wanted]))
    return (trace.sorts, left_table, right_table, tuple(pick))
