"""Traces of what is wanted of rows, made as small as they can be made quickly.

A trace guesses along a row which entry will be the wanted one. It is an object with sorts;
starts(), its items for the empty row; nexts(item), for each mark a pair of lists of items: where
it goes if the entry is another one, and where if it is the wanted one; goes(item), for each mark
the items to which one goes once the wanted entry has come; and is_right(item), whether the
guesses were right if the row ends then. For a row and an entry of it at most one way is right.
"""

from pointingreads.classes import numbered_keys
from pointingreads.routes import distances

AHEAD = 0
COME = 1
FEW_ITEMS = 100


class Machine:
    """A trace in numbers; some of its items are an ascending tuple of their numbers.

    start has the items of the empty row, goal those that are right. For each mark and each item
    stays tells the items behind another entry, born those behind the wanted one, and after those
    behind an entry if the wanted one has come.
    """

    def __init__(self, start, goal, stays, born, after):
        self.start = start
        self.goal = goal
        self.stays = stays
        self.born = born
        self.after = after


def moved_by(rows, items):
    """Where items go, those to which an even number of them goes left out."""
    found = {}
    for item in items:
        for behind in rows[item]:
            if behind in found:
                del found[behind]
            else:
                found[behind] = True
    return tuple(sorted(found))


def rows_behind(trace, node):
    """For each mark the pairs (stage, item) to which one goes from such a pair."""
    stage, item = node
    if stage == COME:
        return [[(COME, one) for one in row] for row in trace.goes(item)]
    return [
        [(AHEAD, one) for one in others] + [(COME, one) for one in wanted]
        for others, wanted in trace.nexts(item)
    ]


def nodes_met(trace, most):
    """The pairs (stage, item) that are met, and for each and each mark the numbers of the next ones.

    None if there are more than most, unless most is None.
    """
    order = [(AHEAD, item) for item in trace.starts()]
    numbers = {node: number for number, node in enumerate(order)}
    moves = []
    while len(moves) < len(order):
        if most is not None and len(order) > most:
            return None
        told = []
        rows = rows_behind(trace, order[len(moves)])
        for row in rows:
            for node in row:
                if node not in numbers:
                    numbers[node] = len(order)
                    order.append(node)
            told.append([numbers[node] for node in row])
        moves.append(told)
    return order, moves


def live_moves(moves, goals):
    """The nodes from which some goal is reached, and their moves to one another by new numbers."""
    arrows = [[(mark, behind) for mark, row in enumerate(rows) for behind in row] for rows in moves]
    far = distances(arrows, goals)
    live = [node for node, distance in enumerate(far) if distance is not None]
    numbers = {node: number for number, node in enumerate(live)}
    told = [[[numbers[behind] for behind in row if behind in numbers] for row in moves[node]] for node in live]
    return live, told


def nodes_ahead(moves, sorts):
    """For each mark and each node the nodes that go there, one as often as it does."""
    found = [[[] for _ in moves] for _ in range(sorts)]
    for node, rows in enumerate(moves):
        for mark, row in enumerate(rows):
            for behind in row:
                found[mark][behind].append(node)
    return found


def split_by(counts, classes, members):
    """Splits the classes by how often their nodes stand in counts; the numbers of the new ones.

    The greatest part of a class keeps its number.
    """
    parts = {}
    for node, count in counts.items():
        parts.setdefault(classes[node], {}).setdefault(count, []).append(node)
    found = []
    for old, told in parts.items():
        rest = members[old]
        for group in told.values():
            for node in group:
                del rest[node]
        groups = [{one: True for one in group} for group in told.values()]
        if rest:
            groups.append(rest)
        groups = sorted(groups, key=lambda group: len(group))
        members[old] = groups.pop()
        for group in groups:
            for node in group:
                classes[node] = len(members)
            found.append(len(members))
            members.append(group)
    return found


def bundled(keys, moves, sorts):
    """Classes of nodes with equal keys that go, at each mark, as often to each class."""
    classes, many = numbered_keys(keys)
    members = [{} for _ in range(many)]
    for node, told in enumerate(classes):
        members[told][node] = True
    ahead = nodes_ahead(moves, sorts)
    todo = list(range(many))
    while todo:
        goals = list(members[todo.pop()])
        for mark in range(sorts):
            counts = {}
            for goal in goals:
                for node in ahead[mark][goal]:
                    counts[node] = counts.get(node, 0) + 1
            # a part that keeps its number is known by the whole and the other parts
            todo.extend(split_by(counts, classes, members))
    return classes


def machine_of(trace, nodes):
    """The machine of a trace and its nodes, without what is never right and with like items as one."""
    order, moves = nodes
    goals = [node for node, (stage, item) in enumerate(order) if stage == COME and trace.is_right(item)]
    live, moves = live_moves(moves, goals)
    right = {node: True for node in goals}
    keys = [(order[node][0], node in right) for node in live]
    classes = bundled(keys, moves, trace.sorts)
    firsts = {}
    for first, told in enumerate(classes):
        firsts.setdefault(told, first)
    aheads, comes = [[node for node in firsts.values() if keys[node][0] == stage] for stage in (AHEAD, COME)]
    places = {classes[node]: place for side in (aheads, comes) for place, node in enumerate(side)}
    many = len(trace.starts())
    starts = [number for number, node in enumerate(live) if node < many]
    known = (keys, classes, moves, places)
    return Machine(
        tuple(sorted([places[classes[node]] for node in starts])),
        tuple([place for place, node in enumerate(comes) if keys[node][1]]),
        rows_told(trace.sorts, aheads, AHEAD, known), rows_told(trace.sorts, aheads, COME, known),
        rows_told(trace.sorts, comes, COME, known))


def rows_told(sorts, nodes, stage, known):
    """For each mark and each of some nodes the items of a stage to which it goes."""
    keys, classes, moves, places = known
    return [
        [
            tuple(sorted([
                places[classes[behind]] for behind in moves[node][mark] if keys[behind][0] == stage
            ]))
            for node in nodes
        ]
        for mark in range(sorts)
    ]


def turned_rows(rows, many):
    """For each mark and each of many items the items that go there."""
    found = []
    for row in rows:
        told = [[] for _ in range(many)]
        for item, behinds in enumerate(row):
            for behind in behinds:
                told[behind].append(item)
        found.append([tuple(items) for items in told])
    return found


def turned_machine(machine):
    """The machine of the same rows read from the end."""
    aheads, comes = len(machine.stays[0]), len(machine.after[0])
    return Machine(
        machine.goal, machine.start, turned_rows(machine.after, comes), turned_rows(machine.born, comes),
        turned_rows(machine.stays, aheads))


def mask_with(items):
    """The integer with a bit for each of some ascending numbers."""
    if len(items) < FEW_ITEMS:
        return sum([1 << item for item in items])
    digits = ["0"] * (items[-1] + 1)
    for item in items:
        digits[item] = "1"
    return int("".join(digits[::-1]), 2)


class Basis:
    """Some of the tuples of items that come, so that each that comes is a sum of some of them."""

    def __init__(self):
        self.kept = []
        self.tops = {}

    def takes(self, items):
        """Keeps items that are no sum of those that are kept; tells whether it does."""
        rest = mask_with(items)
        while rest > 0:
            top = rest.bit_length()
            if top not in self.tops:
                self.tops[top] = rest
                self.kept.append(items)
                return True
            rest = rest ^ self.tops[top]
        return False


def spans(machine, most):
    """The bases of the items that come ahead of the wanted entry and behind it.

    A triple: both, and whether they are whole; they need not be if they have most tuples.
    """
    sides = (Basis(), Basis())
    todo = [(AHEAD, machine.start)]
    at = 0
    while at < len(todo):
        if most is not None and len(sides[AHEAD].kept) + len(sides[COME].kept) >= most:
            return sides[AHEAD].kept, sides[COME].kept, False
        stage, items = todo[at]
        todo[at] = None
        at += 1
        if not sides[stage].takes(items):
            continue
        for mark in range(len(machine.stays)):
            if stage == COME:
                todo.append((COME, moved_by(machine.after[mark], items)))
            else:
                todo.append((AHEAD, moved_by(machine.stays[mark], items)))
                todo.append((COME, moved_by(machine.born[mark], items)))
    return sides[AHEAD].kept, sides[COME].kept, True


def names_by(kept, many):
    """For each of many items an integer that tells in which of some tuples it is."""
    names = [0] * many
    for number, items in enumerate(kept):
        for item in items:
            names[item] = names[item] | (1 << number)
    return names


def names_of(machine, most):
    """Names of the items: those that do the same along all rows to come have the same sum of names.

    A triple: the names ahead of the wanted entry, those behind it, and whether they are whole;
    if they are not, unlike sums still tell what is unlike.
    """
    comes, aheads, whole = spans(turned_machine(machine), most)
    return (
        names_by(aheads, len(machine.stays[0])), names_by(comes, len(machine.after[0])), whole)
