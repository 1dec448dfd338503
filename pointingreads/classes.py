"""Things that behave alike, put into classes."""

from pointingreads.errors import TooGreat


def numbered_keys(keys):
    """For each key a number, the same for equal ones, and how many numbers there are."""
    numbers = {}
    found = []
    for key in keys:
        found.append(numbers.setdefault(key, len(numbers)))
    return found, len(numbers)


def refined(keys, moves, most):
    """The coarsest classes of things with equal keys that move into equal classes.

    moves has for each thing the numbers of the next ones. A list with the class of each
    thing; TooGreat(most) of more classes, unless most is None.
    """
    classes, many = numbered_keys(keys)
    while True:
        if most is not None and many > most:
            raise TooGreat(most)
        finer = [
            (classes[thing],) + tuple([classes[behind] for behind in row])
            for thing, row in enumerate(moves)
        ]
        finer_classes, finer_many = numbered_keys(finer)
        if finer_many == many:
            return classes
        classes, many = finer_classes, finer_many


def told_order(classes, moves):
    """The classes as they are first met from that of thing 0.

    A pair: one thing of each class in their new order, and for each old class its new number.
    """
    order = [0]
    numbers = {classes[0]: 0}
    at = 0
    while at < len(order):
        row = moves[order[at]]
        for thing in row:
            if classes[thing] not in numbers:
                numbers[classes[thing]] = len(order)
                order.append(thing)
        at += 1
    return order, numbers
