"""What rows do to a reader that comes to them at any of its stands."""

from pointingreads.checks import are_unlike, is_tuple, is_whole
from pointingreads.errors import BadPaper
from pointingreads.passages import entries_coming, numbered_ways, passage_joined, passage_of
from pointingreads.readers import need_fit, need_reader


def is_way(reader, stand, value):
    """Whether any value has the form of what comes behind a stand, the numbers of entries aside."""
    if not (is_tuple(value, 2, 2) and is_whole(value[0], 0, len(reader[1]) - 1)):
        return False
    many = reader[1][value[0]]
    hold = value[1]
    if not (is_tuple(hold, many, many) and all([type(thing) == int for thing in hold])):
        return False
    return all([thing < reader[1][stand] for thing in hold]) and are_unlike(hold)


def is_behaviour(reader, value):
    """Whether any value has the form of a behaviour."""
    many = len(reader[1])
    if not (is_tuple(value, many, many) and all([is_way(reader, stand, way) for stand, way in enumerate(value)])):
        return False
    lowest = 0
    for _, hold in value:
        for thing in hold:
            if thing < lowest - 1:
                return False
            lowest = min(lowest, thing)
    return True


def behaviour_of(reader, blocks):
    """The behaviour of some blocks, and the places of the entries that come."""
    return numbered_ways(passage_of(reader, blocks)[1])


def behaviours_kept(value, other_value):
    """Two behaviours joined, and what is kept."""
    many = entries_coming(value)
    # the numbers of the second one's entries go on behind those of the first one
    _, ways = passage_joined((many, value), (0, other_value))
    told, numbers = numbered_ways(ways)
    kept = [(0, number) if number < many else (1, number - many) for number in numbers]
    return told, tuple(kept)


def behaviour(reader, row):
    """The behaviour of the row."""
    need_fit(reader, row)
    told, _ = behaviour_of(reader, row)
    return told


def need_behaviour(reader, value):
    """The value, if it has the form of a behaviour."""
    need_reader(reader)
    if not is_behaviour(reader, value):
        raise BadPaper("behaviour")
    return value


def behaviours_joined(reader, value, other_value):
    """Both values joined, and what is kept."""
    need_behaviour(reader, value)
    need_behaviour(reader, other_value)
    return behaviours_kept(value, other_value)
