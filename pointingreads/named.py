"""Readers by their names."""

from pointingreads.checks import are_unlike, are_whole, is_tuple, is_whole
from pointingreads.errors import BadName, BadRule, BadSorts

NAMES = (
    "none", "first", "last", "second", "next to last", "third",
    "first or last", "new", "even last", "same as first",
)

# for each name that does not ask the marks: the hands, the only step, the point of each stand
PLAIN = {
    "none": ((0, (0, ()), -1),),
    "first": ((0, (1, (-1,)), -1), (1, (1, (0,)), 0)),
    "last": ((0, (1, (-1,)), -1), (1, (1, (-1,)), 0)),
    "second": ((0, (1, ()), -1), (0, (2, (-1,)), -1), (1, (2, (0,)), 0)),
    "third": ((0, (1, ()), -1), (0, (2, ()), -1), (0, (3, (-1,)), -1), (1, (3, (0,)), 0)),
    "next to last": ((0, (1, (-1,)), -1), (1, (2, (0, -1)), -1), (2, (2, (1, -1)), 0)),
    "first or last": (
        (0, (1, (-1,)), -1), (1, (2, (0,)), 0), (1, (3, (0, -1)), 0), (2, (2, (0,)), 1),
    ),
    "even last": ((0, (1, (-1,)), -1), (1, (2, (0,)), 0), (1, (1, (-1,)), 0)),
}


def plain_reader(stands, sorts):
    """The reader whose stands have one step for all marks."""
    return (
        sorts,
        tuple([held for held, _, _ in stands]),
        tuple([(step,) * sorts for _, step, _ in stands]),
        tuple([hand for _, _, hand in stands]),
    )


def one_hand_reader(sorts, many, nexts):
    """The reader with one hand at each stand but the first one.

    nexts(stand, mark) tells the next stand, and whether its hand takes the new entry.
    """
    rows = []
    for stand in range(many):
        row = []
        for mark in range(sorts):
            behind, takes = nexts(stand, mark)
            keep = () if behind == 0 else ((-1,) if takes else (0,))
            row.append((behind, keep))
        rows.append(tuple(row))
    held = (0,) + (1,) * (many - 1)
    return (sorts, held, tuple(rows), (-1,) + (0,) * (many - 1))


def after_new(stand, mark):
    """The step of "new": stand 1 + A holds the last new entry, the last mark being A."""
    return (1 + mark, stand != 1 + mark)


def after_same(stand, mark):
    """The step of "same as first": stand 1 + A holds the last entry with the first mark A."""
    if stand == 0:
        return (1 + mark, True)
    return (stand, stand == 1 + mark)


def need_sorts(sorts):
    """Refuses what is no number of sorts."""
    if not is_whole(sorts, 1, 4):
        raise BadSorts(sorts)


def reader_named(name, sorts):
    """A reader that points as the name tells."""
    if not (type(name) == str and name in NAMES):
        raise BadName(name)
    need_sorts(sorts)
    if name == "new":
        return one_hand_reader(sorts, 1 + sorts, after_new)
    if name == "same as first":
        return one_hand_reader(sorts, 1 + sorts, after_same)
    return plain_reader(PLAIN[name], sorts)


def need_order(order, sorts):
    """Refuses what is no order of marks below sorts."""
    if not (is_tuple(order, 1, 4) and are_whole(order, 0, 3) and are_unlike(order)):
        raise BadRule("order")
    need_sorts(sorts)
    if max(order) >= sorts:
        raise BadRule("mark")


def order_reader(order, sorts, takes_like):
    """The reader of an order: stand 1 + K has met the mark order[K] and no better one."""
    def after(stand, mark):
        if mark not in order:
            return (stand, False)
        better = 1 + order.index(mark)
        if stand == 0 or better < stand:
            return (better, True)
        return (stand, takes_like and better == stand)
    return one_hand_reader(sorts, 1 + len(order), after)


def first_of(order, sorts):
    """A reader that points at the first entry with the best mark of the order."""
    need_order(order, sorts)
    return order_reader(order, sorts, False)


def last_of(order, sorts):
    """A reader that points at the last entry with the best mark of the order."""
    need_order(order, sorts)
    return order_reader(order, sorts, True)
