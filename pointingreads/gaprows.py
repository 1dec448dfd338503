"""Rows with a given number of entries between two points, also a very great one."""

from pointingreads.lengths import circle_periods
from pointingreads.rows import MOST_BLOCKS

MOST_DIRECT = 3400
MOST_TRIED = 40
MOST_STORED = 10 ** 7
MOST_MARKS = 60


def repeated(word, at, period):
    """How many marks from a place on are whole repetitions of so many marks."""
    end = at + period
    while end < len(word) and word[end] == word[end - period]:
        end += 1
    return (end - at) // period * period


def packed(word):
    """Blocks that read as the word; each but the last one has 60 entries or more."""
    found = []
    at = 0
    while at < len(word):
        rest = min(MOST_MARKS, len(word) - at)
        best = 0
        period = rest
        for number in range(1, rest + 1):
            many = repeated(word, at, number)
            if many > best:
                best = many
                period = number
        found.append((word[at:at + period], best // period))
        at += best
    return tuple(found)


def packed_often(word, times):
    """Blocks that read as the word, done so often; None where none is found."""
    if times == 0:
        return ()
    for number in range(1, min(MOST_MARKS, len(word)) + 1):
        if len(word) % number == 0 and repeated(word, 0, number) == len(word):
            return ((word[:number], len(word) // number * times),)
    return packed(word) if times == 1 else None


def shortest_circle(nexts, start):
    """The marks of a shortest way from an inner course back to it, None if there is none."""
    ahead = {start: None}
    reached = [start]
    at = 0
    while at < len(reached):
        node = reached[at]
        for mark, behind in nexts[node]:
            if behind == start:
                word = [mark]
                while ahead[node] is not None:
                    mark, node = ahead[node]
                    word.append(mark)
                return tuple(word[::-1])
            if behind not in ahead:
                ahead[behind] = (mark, node)
                reached.append(behind)
        at += 1
    return None


def circles_tried(nexts):
    """Pairs (node, marks): some nodes with short ways back to them, the shortest ones first."""
    told = circle_periods([[behind for _, behind in row] for row in nexts])
    nodes = [node for node, period in enumerate(told) if period > 0]
    step = 1 + len(nodes) // MOST_TRIED
    found = []
    for node in nodes[::step]:
        word = shortest_circle(nexts, node)
        found.append((len(word), node, word))
    return [(node, word) for _, node, word in sorted(found)]


def way_round(trails, node, many, rest):
    """A shortest way from a start to a stop that goes by a node and leaves a rest modulo many.

    A list of pairs (mark, inner course), the first one with the mark None; None without a way.
    """
    reached = [(start, 0, start == node) for start in trails.first_arrows]
    ahead = {one: None for one in reached}
    at = 0
    while at < len(reached):
        one = reached[at]
        place, count, passed = one
        if passed and count == rest and place in trails.last_arrows:
            way = []
            while ahead[one] is not None:
                mark, before = ahead[one]
                way.append((mark, one[0]))
                one = before
            way.append((None, one[0]))
            return way[::-1]
        for mark, behind in trails.leads[place]:
            thing = (behind, (count + 1) % many, passed or behind == node)
            if thing not in ahead:
                ahead[thing] = (mark, one)
                reached.append(thing)
        at += 1
    return None


def round_row(trails, node, word, many):
    """A row with so many arrows between both points that goes round at a node, or None."""
    way = way_round(trails, node, len(word), many % len(word))
    if way is None or len(way) - 1 > many:
        return None
    places = [place for _, place in way]
    marks = tuple([mark for mark, _ in way[1:]])
    at = places.index(node)
    middle = packed_often(word, (many - len(marks)) // len(word))
    if middle is None:
        return None
    first = trails.first_word(places[0]) + marks[:at]
    return packed(first) + middle + packed(marks[at:] + trails.last_word(places[-1]))


def direct_row(trails, many):
    """A row with so many arrows between both points that is told mark by mark, or None."""
    layers = [{start: None for start in trails.first_arrows}]
    for _ in range(many):
        behind = {}
        layer = layers[-1]
        for node in layer:
            for mark, place in trails.leads[node]:
                if place not in behind:
                    behind[place] = (mark, node)
        layers.append(behind)
    ends = [node for node in layers[-1] if node in trails.last_arrows]
    if ends == []:
        return None
    node = ends[0]
    word = list(trails.last_word(node)[::-1])
    for layer in layers[:0:-1]:
        mark, node = layer[node]
        word.append(mark)
    return packed(trails.first_word(node) + tuple(word[::-1]))


def row_with(trails, many):
    """A row with so many arrows between both points, None if none with few blocks is found."""
    if many <= MOST_DIRECT and many * len(trails.leads) <= MOST_STORED:
        found = direct_row(trails, many)
        if found is not None and len(found) <= MOST_BLOCKS:
            return found
    for node, word in circles_tried(trails.leads):
        found = round_row(trails, node, word, many)
        if found is not None and len(found) <= MOST_BLOCKS:
            return found
    return None
