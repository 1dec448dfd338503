"""Rows of which nothing that may come changes the point."""

from pointingreads.checks import is_whole
from pointingreads.ends import ends_told, least_read
from pointingreads.errors import BadNumber
from pointingreads.folding import folded
from pointingreads.readers import need_fit, need_reader
from pointingreads.routes import least_routes, route

MOST_NUMBER = 10 ** 30


def is_still(least, stand):
    """Whether the rows of a stand of a least reader are settled."""
    held = least[1][stand]
    return held <= 1 and all([step == (stand, tuple(range(held))) for step in least[2][stand]])


def is_settled(reader, row):
    """Whether the row is settled."""
    need_fit(reader, row)
    least, stand, _ = least_read(reader, row)
    return is_still(least, stand)


def stand_arrows(least):
    """For each stand the pairs (mark, stand) of its steps."""
    return [[(mark, step[0]) for mark, step in enumerate(row)] for row in least[2]]


def settling(reader, row):
    """The least word behind which the row is settled, None if there is none."""
    need_fit(reader, row)
    least, stand, _ = least_read(reader, row)
    goals = [goal for goal in range(len(least[1])) if is_still(least, goal)]
    begins, ranks = least_routes(stand_arrows(least), goals)
    return None if ranks[stand] is None else route(begins, stand)


def settled_ends(reader, row):
    """The ends of the settled rows that continue the row, each with the least word that gives it."""
    need_fit(reader, row)
    least, stand, places = least_read(reader, row)
    return ends_told(least, stand, places, lambda behind: is_still(least, behind))


def open_moves(least):
    """For each stand the pairs (mark, stand) of its steps to stands of open rows, none of a still one."""
    return [
        [] if is_still(least, stand) else [
            (mark, behind) for mark, behind in row if not is_still(least, behind)
        ]
        for stand, row in enumerate(stand_arrows(least))
    ]


def longest_ways(moves):
    """For each stand how many steps a longest way has, None if there is no longest one."""
    longest = [None] * len(moves)
    found = True
    while found:
        found = False
        for stand, row in enumerate(moves):
            ways = [longest[behind] for _, behind in row]
            if longest[stand] is None and None not in ways:
                longest[stand] = max([-1] + ways) + 1
                found = True
    return longest


def last_open(reader):
    """The greatest number of entries of an open row, -1 if there is none, None if there is no greatest."""
    need_reader(reader)
    least = folded(reader)
    if is_still(least, 0):
        return -1
    return longest_ways(open_moves(least))[0]


def open_way(moves, longest):
    """The marks of a longest way from stand 0, and how many of them lead into a circle, if it is endless.

    What stands behind these leads round the circle once.
    """
    stand = 0
    word = []
    seen = {}
    while moves[stand] and stand not in seen:
        seen[stand] = len(word)
        endless = [step for step in moves[stand] if longest[step[1]] is None]
        mark, stand = endless[0] if endless else max([
            (longest[behind], mark, behind) for mark, behind in moves[stand]
        ])[1:]
        word.append(mark)
    return tuple(word), seen.get(stand, len(word))


def open_run(reader, number):
    """An open row with so many entries, as X, Y, how often Y is done, and Z; None if there is none."""
    need_reader(reader)
    if not is_whole(number, 0, MOST_NUMBER):
        raise BadNumber(number)
    least = folded(reader)
    moves = open_moves(least)
    longest = longest_ways(moves)
    if is_still(least, 0) or (longest[0] is not None and longest[0] < number):
        return None
    word, ahead = open_way(moves, longest)
    if number <= ahead:
        return (word[:number], (), 0, ())
    again = word[ahead:]
    times, rest = divmod(number - ahead, len(again))
    return (word[:ahead], again, times, again[:rest])
