"""What parts of rows do to a reader that comes to them at any of its stands.

A passage is a pair (LENGTH, WAYS). WAYS has for each stand a pair (STAND, HOLD): the stand behind
the part, and what its hands hold there, a hand of the stand ahead, or -1 less the place of an
entry of the part.
"""


def empty_passage(reader):
    """The passage of the empty row."""
    return (0, tuple([(stand, tuple(range(hands))) for stand, hands in enumerate(reader[1])]))


def passage_joined(first, second):
    """The passage of a part with the one passage and a part with the other one behind it."""
    length, ways = first
    other_length, other_ways = second
    found = []
    for stand, hold in ways:
        behind, other_hold = other_ways[stand]
        found.append((behind, tuple([hold[thing] if thing >= 0 else thing - length for thing in other_hold])))
    return (length + other_length, tuple(found))


def passage_often(reader, passage, times):
    """The passage of a part that is done so often."""
    found = empty_passage(reader)
    while times > 0:
        if times & 1 == 1:
            found = passage_joined(found, passage)
        times = times >> 1
        if times > 0:
            passage = passage_joined(passage, passage)
    return found


def passage_of(reader, blocks):
    """The passage of some blocks."""
    single = [(1, tuple([row[mark] for row in reader[2]])) for mark in range(reader[0])]
    found = empty_passage(reader)
    for marks, times in blocks:
        block = single[marks[0]]
        for mark in marks[1:]:
            block = passage_joined(block, single[mark])
        found = passage_joined(found, passage_often(reader, block, times))
    return found


def numbered_ways(ways):
    """The ways with the entries that come numbered as they are first met, and their places."""
    numbers = {}
    found = []
    for stand, hold in ways:
        told = []
        for thing in hold:
            if thing < 0:
                thing = -1 - numbers.setdefault(thing, len(numbers))
            told.append(thing)
        found.append((stand, tuple(told)))
    return tuple(found), tuple([-1 - thing for thing in numbers])


def placed_ways(ways, places):
    """The ways with the numbers of entries made their places."""
    return tuple([
        (stand, tuple([thing if thing >= 0 else -1 - places[-1 - thing] for thing in hold]))
        for stand, hold in ways
    ])


def entries_coming(ways):
    """How many entries come in numbered ways."""
    return -min([0] + [thing for _, hold in ways for thing in hold])
