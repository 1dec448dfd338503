"""Readers whose stands and hands are numbered in another way."""

from pointingreads.checks import are_unlike, are_whole, is_tuple
from pointingreads.errors import BadPaper
from pointingreads.readers import need_reader, stands_met
from pointingreads.twofold import need_two


def is_order(value, many):
    """Whether any value is a tuple of the numbers below many, each once."""
    return is_tuple(value, many, many) and are_whole(value, 0, many - 1) and are_unlike(value)


def are_orders(value, held):
    """Whether any value has for each stand a tuple of all its hands."""
    if not is_tuple(value, len(held), len(held)):
        return False
    return all([is_order(hands, many) for hands, many in zip(value, held)])


def renumbered(reader, order, hands):
    """The reader whose stands are numbered by the order, and their hands by hands."""
    need_reader(reader)
    sorts, held, steps, points = reader
    if not (is_order(order, len(held)) and order[0] == 0):
        raise BadPaper("order")
    if not are_orders(hands, held):
        raise BadPaper("hands")
    numbers = {stand: number for number, stand in enumerate(order)}
    told = []
    for stand in order:
        row = []
        for behind, keep in steps[stand]:
            old = [keep[hand] for hand in hands[behind]]
            row.append((
                numbers[behind],
                tuple([-1 if hand < 0 else hands[stand].index(hand) for hand in old]),
            ))
        told.append(tuple(row))
    ends = [-1 if points[stand] < 0 else hands[stand].index(points[stand]) for stand in order]
    return (sorts, tuple([held[stand] for stand in order]), tuple(told), tuple(ends))


def hands_over(hands, keep, other_keep):
    """For each hand behind a step the hand to which it goes, None if what is kept doesn't go over."""
    if len(keep) != len(other_keep):
        return None
    images = [-1 if hand < 0 else hands[hand] for hand in keep]
    if sorted(images) != sorted(other_keep):
        return None
    return tuple([other_keep.index(image) for image in images])


def goes_over(stand, other_stand, known, step, other_step):
    """Gives the stand behind a step its image, and tells whether the step goes over."""
    behind, keep = step
    other_behind, other_keep = other_step
    hands = hands_over(known[stand][1], keep, other_keep)
    if hands is None:
        return False
    return known.setdefault(behind, (other_behind, hands)) == (other_behind, hands)


def point_over(hands, hand, other_hand):
    """Whether what is pointed at goes over."""
    return other_hand == (-1 if hand < 0 else hands[hand])


def renaming(reader, other):
    """The renaming of the two readers, or None."""
    need_two(reader, other)
    met, _ = stands_met(reader[2])
    other_met, _ = stands_met(other[2])
    known = {0: (0, ())}
    for stand in met:
        other_stand, hands = known[stand]
        if not point_over(hands, reader[3][stand], other[3][other_stand]):
            return None
        for step, other_step in zip(reader[2][stand], other[2][other_stand]):
            if not goes_over(stand, other_stand, known, step, other_step):
                return None
    stands = tuple([known[stand][0] for stand in met])
    if sorted(stands) != sorted(other_met):
        return None
    return (stands, tuple([known[stand][1] for stand in met]))
