"""Least words along the arrows between numbered nodes.

Arrows are a list that has for each node a list of pairs (mark, node).
"""


def turned(arrows):
    """For each node the nodes from which arrows lead there."""
    found = [[] for _ in arrows]
    for node, pairs in enumerate(arrows):
        for _, behind in pairs:
            found[behind].append(node)
    return found


def distances(arrows, goals):
    """For each node the fewest arrows to a goal, None if there is no way."""
    ahead = turned(arrows)
    far = [None] * len(arrows)
    reached = []
    for node in goals:
        if far[node] is None:
            far[node] = 0
            reached.append(node)
    at = 0
    while at < len(reached):
        node = reached[at]
        for other in ahead[node]:
            if far[other] is None:
                far[other] = far[node] + 1
                reached.append(other)
        at += 1
    return far


def layers(far):
    """The nodes by their distances, without those that have none."""
    found = []
    for node, distance in enumerate(far):
        if distance is not None:
            while len(found) <= distance:
                found.append([])
            found[distance].append(node)
    return found


def least_routes(arrows, goals):
    """For each node how its least word to a goal begins, and its rank among the least words.

    A pair of lists (begins, ranks). begins has (mark, node), or None of a goal and of a node
    without a way. ranks has integers that stand to one another as the least words do in the
    order of words, equal ones for equal words; None of a node without a way.
    """
    far = distances(arrows, goals)
    begins = [None] * len(arrows)
    ranks = [None] * len(arrows)
    base = 0
    for distance, nodes in enumerate(layers(far)):
        keys = {}
        for node in nodes:
            choices = [
                (mark, ranks[behind], behind) for mark, behind in arrows[node]
                if distance > 0 and far[behind] == distance - 1
            ]
            if choices:
                mark, rank, behind = min(choices)
                begins[node] = (mark, behind)
                keys.setdefault((mark, rank), []).append(node)
            else:
                keys.setdefault((0, 0), []).append(node)
        for key in sorted(keys):
            for node in keys[key]:
                ranks[node] = base
            base += 1
    return begins, ranks


def route(begins, node):
    """The least word from a node that has a way, or from a goal."""
    word = []
    while begins[node] is not None:
        mark, node = begins[node]
        word.append(mark)
    return tuple(word)


def least_start(nodes, ranks):
    """The node whose least word is the least one, None if none has a way."""
    ways = [(ranks[node], node) for node in nodes if ranks[node] is not None]
    if not ways:
        return None
    return min(ways)[1]
