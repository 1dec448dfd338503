"""The borders between the entries of rows, as a sieve sees them.

A border is numbered by the left state of what is ahead of it and the right state of what is
behind it. A row is just one way along the borders, from the left state 0 to the right state 0.
"""


def border(sieve, left, right):
    """The number of a border."""
    return left * len(sieve[2]) + right


def entry_arrows(sieve):
    """For each border the entries that can stand behind it: triples (mark, border, picked)."""
    sorts, lefts, rights, pick = sieve
    found = [[] for _ in range(len(lefts) * len(rights))]
    for right, row in enumerate(rights):
        for mark in range(sorts):
            for left, behind in enumerate(lefts):
                truth = pick[left][mark][right]
                at = border(sieve, left, row[mark])
                found[at].append((mark, border(sieve, behind[mark], right), truth))
    return found


def first_borders(sieve):
    """The borders ahead of whole rows."""
    return [border(sieve, 0, right) for right in range(len(sieve[2]))]


def last_borders(sieve):
    """The borders behind whole rows."""
    return [border(sieve, left, 0) for left in range(len(sieve[1]))]


def finished(arrows):
    """The nodes in an order in which each stands behind all that it leads to, circles aside."""
    seen = [False] * len(arrows)
    found = []
    for start in range(len(arrows)):
        path = [] if seen[start] else [(start, 0)]
        seen[start] = True
        while path:
            node, done = path.pop()
            if done == len(arrows[node]):
                found.append(node)
            else:
                path.append((node, done + 1))
                behind = arrows[node][done][1]
                if not seen[behind]:
                    seen[behind] = True
                    path.append((behind, 0))
    return found


def circles(arrows):
    """For each node the number of its circle: nodes that lead to one another have the same.

    What leads from a circle to another one leads to a greater number.
    """
    ahead = [[] for _ in arrows]
    for node, row in enumerate(arrows):
        for arrow in row:
            ahead[arrow[1]].append(node)
    found = [None] * len(arrows)
    many = 0
    for start in reversed(finished(arrows)):
        if found[start] is None:
            give_number(ahead, found, start, many)
            many += 1
    return found


def give_number(ahead, found, start, number):
    """Gives the number to all nodes without one from which ways lead to the start."""
    path = [start]
    while path:
        node = path.pop()
        if found[node] is None:
            found[node] = number
            path.extend([other for other in ahead[node] if found[other] is None])


def behind_arrows(rights):
    """Arrows along which a word leads from the right state ahead of it to state 0."""
    arrows = [[] for _ in rights]
    for state, row in enumerate(rights):
        for mark, ahead in enumerate(row):
            arrows[ahead].append((mark, state))
    return arrows
