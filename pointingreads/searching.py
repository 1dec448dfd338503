"""What can be met from a beginning, in the order in which it is first met."""

from pointingreads.errors import TooGreat


def explored(start, nexts, most):
    """All things met from the start, and for each of them the numbers of its next ones.

    nexts(thing) tells the next things, in order; TooGreat(most) if more are met, unless
    most is None.
    """
    order = [start]
    numbers = {start: 0}
    moves = []
    while len(moves) < len(order):
        found = []
        things = nexts(order[len(moves)])
        for thing in things:
            if thing not in numbers:
                numbers[thing] = len(order)
                order.append(thing)
            found.append(numbers[thing])
        moves.append(tuple(found))
        if most is not None and len(order) > most:
            raise TooGreat(most)
    return order, moves


def word_to(ahead, at):
    """The word that leads to a group; ahead has for each group the one ahead of it, and the mark."""
    word = []
    while ahead[at] is not None:
        at, mark = ahead[at]
        word.append(mark)
    return tuple(word[::-1])


def least_words(starts, nexts, name, wanted):
    """The least words that lead from the starts to things with the wanted names.

    nexts(thing) tells for each mark the things to which it leads, none, one or several;
    name(thing) tells the name of a thing. A dict from the names that are reached.
    """
    found = {}
    # a group has the things with one and the same least word; groups come by these words
    groups = [list(starts)]
    ahead = [None]
    seen = {start: True for start in starts}
    at = 0
    while at < len(groups):
        group = groups[at]
        for told in [name(thing) for thing in group]:
            if told in wanted and told not in found:
                found[told] = word_to(ahead, at)
        if len(found) == len(wanted):
            return found
        rows = [nexts(thing) for thing in group]
        for mark in range(len(rows[0])):
            behind = unseen(seen, [thing for row in rows for thing in row[mark]])
            if behind:
                groups.append(behind)
                ahead.append((at, mark))
        groups[at] = None
        at += 1
    return found


def unseen(seen, things):
    """The things that have not been seen, each once; now they have been."""
    found = []
    for thing in things:
        if thing not in seen:
            seen[thing] = True
            found.append(thing)
    return found


def explored_ways(start, nexts):
    """All things met from the start where a mark may lead to several of them.

    A triple of lists: the things; for each of them the pairs (mark, number) to which it leads;
    for each of them the number of one from which it is first met, and the mark, None of the start.
    """
    order = [start]
    numbers = {start: 0}
    ahead = [None]
    arrows = []
    while len(arrows) < len(order):
        at = len(arrows)
        found = []
        rows = nexts(order[at])
        for mark, things in enumerate(rows):
            for thing in things:
                if thing not in numbers:
                    numbers[thing] = len(order)
                    order.append(thing)
                    ahead.append((at, mark))
                found.append((mark, numbers[thing]))
        arrows.append(found)
    return order, arrows, ahead
