"""What can be met from a beginning, in the order in which it is first met."""

from pointingreads.errors import TooGreat


def explored(start, nexts, most):
    """All things met from the start, and for each of them the numbers of its next ones.

    nexts(thing) tells the next things, in order; TooGreat(most) if more are met, unless
    most is None.
    """
    order = [start]
    numbers = {start: 0}
    moves = []
    while len(moves) < len(order):
        found = []
        things = nexts(order[len(moves)])
        for thing in things:
            if thing not in numbers:
                numbers[thing] = len(order)
                order.append(thing)
            found.append(numbers[thing])
        moves.append(tuple(found))
        if most is not None and len(order) > most:
            raise TooGreat(most)
    return order, moves
