"""The rules of readers, and the stands that they meet."""

from pointingreads.checks import are_unlike, are_whole, is_tuple, is_whole
from pointingreads.errors import BadReader, BadRow
from pointingreads.rows import need_row
from pointingreads.searching import explored

MOST_STANDS = 200
MOST_HANDS = 8


def has_form(value):
    """Whether a value has the outer form of a reader."""
    if not is_tuple(value, 4, 4):
        return False
    sorts, held, steps, points = value
    if not (is_whole(sorts, 1, 4) and is_tuple(held, 1, MOST_STANDS)):
        return False
    return is_tuple(steps, len(held), len(held)) and is_tuple(points, len(held), len(held))


def is_step(value, held, stand):
    """Whether a value is a step from the stand."""
    if not (is_tuple(value, 2, 2) and is_whole(value[0], 0, len(held) - 1)):
        return False
    many = held[value[0]]
    keep = value[1]
    return is_tuple(keep, many, many) and are_whole(keep, -1, held[stand] - 1) and are_unlike(keep)


def are_steps(value, sorts, held, stand):
    """Whether a value is a tuple of the steps of the stand."""
    return is_tuple(value, sorts, sorts) and all([is_step(step, held, stand) for step in value])


def reader_fault(value):
    """None for a reader, otherwise the pair of the first rule that fails and the stand."""
    if not has_form(value):
        return ("form", None)
    sorts, held, steps, points = value
    for stand, hands in enumerate(held):
        if not is_whole(hands, 0, 0 if stand == 0 else MOST_HANDS):
            return ("held", stand)
    for stand, row in enumerate(steps):
        if not are_steps(row, sorts, held, stand):
            return ("steps", stand)
    for stand, hand in enumerate(points):
        if not is_whole(hand, -1, held[stand] - 1):
            return ("points", stand)
    return None


def is_reader(value):
    """Whether any value is a reader."""
    return reader_fault(value) is None


def need_reader(reader):
    """The reader, if it is one."""
    fault = reader_fault(reader)
    if fault is not None:
        raise BadReader(fault[0], fault[1])
    return reader


def need_marks_below(row, sorts):
    """Refuses a row with a mark that is not below sorts."""
    for place, block in enumerate(row):
        if max(block[0]) >= sorts:
            raise BadRow(place)


def need_fit(reader, row):
    """The row, if it is one that the reader reads."""
    need_reader(reader)
    need_row(row)
    need_marks_below(row, reader[0])
    return row


def stands_met(steps):
    """The stands that are met, in their order, and for each the numbers of the next ones."""
    return explored(0, lambda stand: [step[0] for step in steps[stand]], None)


def met_stands(reader):
    """The met stands, in their order."""
    need_reader(reader)
    order, _ = stands_met(reader[2])
    return tuple(order)


def greatest_hold(reader):
    """The greatest number of hands at a met stand."""
    need_reader(reader)
    order, _ = stands_met(reader[2])
    return max([reader[1][stand] for stand in order])
