"""What two readers hold together, in the order of the entries."""

from pointingreads.checks import is_tuple, is_whole
from pointingreads.errors import BadMark, BadPaper
from pointingreads.readers import need_fit
from pointingreads.searching import explored
from pointingreads.tracing import pattern_word
from pointingreads.twofold import need_two
from pointingreads.walking import row_walked

MOST_PATTERNS = 2000
FIRST_PATTERN = (0, 0, ())


def are_hands(hands, held):
    """Whether integers from -1 on tell each of so many hands once."""
    return sorted([hand for hand in hands if hand >= 0]) == list(range(held))


def is_pattern(reader, other, value):
    """Whether any value is a pattern of the two."""
    if not is_tuple(value, 3, 3):
        return False
    stand, other_stand, holds = value
    if not (is_whole(stand, 0, len(reader[1]) - 1) and is_whole(other_stand, 0, len(other[1]) - 1)):
        return False
    if not (is_tuple(holds, 0, 16) and all([is_tuple(pair, 2, 2) for pair in holds])):
        return False
    held, other_held = reader[1][stand], other[1][other_stand]
    for hand, other_hand in holds:
        if not (is_whole(hand, -1, held - 1) and is_whole(other_hand, -1, other_held - 1)):
            return False
        if hand == -1 and other_hand == -1:
            return False
    hands = [pair[0] for pair in holds]
    other_hands = [pair[1] for pair in holds]
    return are_hands(hands, held) and are_hands(other_hands, other_held)


def need_pattern(reader, other, pattern):
    """Refuses what is no pattern of the two."""
    if not is_pattern(reader, other, pattern):
        raise BadPaper("pattern")


def holds_of(places, other_places):
    """What hands at some places hold together."""
    return tuple([
        (
            places.index(place) if place in places else -1,
            other_places.index(place) if place in other_places else -1,
        )
        for place in sorted(set(places + other_places))
    ])


def pattern_behind(reader, other, pattern, mark):
    """The pattern to which one goes at a mark."""
    stand, other_stand, holds = pattern
    stand, keep = reader[2][stand][mark]
    other_stand, other_keep = other[2][other_stand][mark]
    # the new entry stands behind all that have been held
    number = {pair[0]: place for place, pair in enumerate(holds)}
    other_number = {pair[1]: place for place, pair in enumerate(holds)}
    places = tuple([len(holds) if hand < 0 else number[hand] for hand in keep])
    other_places = tuple([len(holds) if hand < 0 else other_number[hand] for hand in other_keep])
    return (stand, other_stand, holds_of(places, other_places))


def patterns_told(reader, other, most):
    """All patterns that come, in the order in which they are met; TooGreat(most) of more."""
    order, _ = explored(
        FIRST_PATTERN,
        lambda pattern: [pattern_behind(reader, other, pattern, mark) for mark in range(reader[0])],
        most)
    return tuple(order)


def pattern_of(reader, other, row):
    """The pattern behind the row."""
    need_two(reader, other)
    need_fit(reader, row)
    stand, places = row_walked(reader[2], 0, (), row, 0)
    other_stand, other_places = row_walked(other[2], 0, (), row, 0)
    return (stand, other_stand, holds_of(places, other_places))


def next_pattern(reader, other, pattern, mark):
    """The pattern to which a pattern goes at a mark."""
    need_two(reader, other)
    need_pattern(reader, other, pattern)
    if not is_whole(mark, 0, reader[0] - 1):
        raise BadMark(mark)
    return pattern_behind(reader, other, pattern, mark)


def patterns(reader, other):
    """All patterns that come, in the order in which they are first met."""
    need_two(reader, other)
    return patterns_told(reader, other, MOST_PATTERNS)


def pattern_row(reader, other, pattern):
    """The least row behind which the pattern stands, or None."""
    need_two(reader, other)
    need_pattern(reader, other, pattern)
    return pattern_word(
        reader, other, pattern,
        lambda one: [pattern_behind(reader, other, one, mark) for mark in range(reader[0])])
