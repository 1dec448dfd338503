"""What may still become of the point of a row, as it goes on."""

from pointingreads.checks import is_whole
from pointingreads.blocks import entry_count
from pointingreads.errors import BadPlace
from pointingreads.folding import folded
from pointingreads.readers import need_fit
from pointingreads.searching import least_words
from pointingreads.twofold import hand_steps
from pointingreads.walking import row_walked

NONE = "none"
NEW = "new"


def least_read(reader, row):
    """The least reader, its stand behind a row that fits, and the places in its hands."""
    least = folded(reader)
    stand, places = row_walked(least[2], 0, (), row, 0)
    return least, stand, places


def goals_behind(steps, goal, mark):
    """The goals to which one goes from a goal by a mark.

    A goal is a triple (STAND, HAND, NAME) of what is taken for granted of the end: NAME is
    "none" if there is no point, "new" if the point is an entry to come or one that has come
    since, otherwise the place of the point. HAND has the entry, -1 where there is none yet.
    """
    stand, hand, name = goal
    behind, new, goes = steps[stand][mark]
    if hand >= 0:
        return [(behind, goes[hand], name)] if goes[hand] >= 0 else []
    found = [(behind, -1, name)]
    if name == NEW and new >= 0:
        found.append((behind, new, name))
    return found


def goals_of(stand, places):
    """The goals at the end of a row, the names in their order."""
    found = [(stand, -1, NONE), (stand, -1, NEW)]
    return found + [(stand, hand, place) for place, hand in sorted(zip(places, range(len(places))))]


def end_words(least, goals, is_good):
    """The least words behind which goals are right, and is_good(stand) tells so: a dict of names."""
    steps = hand_steps(least)

    def name_of(goal):
        stand, hand, name = goal
        right = least[3][stand] == hand and (name == NONE) == (hand < 0)
        return name if right and is_good(stand) else None

    marks = list(range(least[0]))
    return least_words(
        goals,
        lambda goal: [goals_behind(steps, goal, mark) for mark in marks],
        name_of,
        [goal[2] for goal in goals])


def ends_told(least, stand, places, is_good):
    """The pairs (END, WORD), in the order of the ends, of the rows at whose stands is_good tells so."""
    goals = goals_of(stand, places)
    words = end_words(least, goals, is_good)
    return tuple([
        (None if name == NONE else name, words[name]) for _, _, name in goals if name in words
    ])


def ends(reader, row):
    """The ends of the row, each with the least word that gives it."""
    need_fit(reader, row)
    least, stand, places = least_read(reader, row)
    return ends_told(least, stand, places, lambda behind: True)


def candidates(reader, row):
    """The places of the candidates, ascending."""
    need_fit(reader, row)
    _, _, places = least_read(reader, row)
    return tuple(sorted(places))


def continuation(reader, row, end):
    """The least word that gives the end, None if none does."""
    need_fit(reader, row)
    is_new = type(end) == str and end == NEW
    if not (end is None or is_new or is_whole(end, 0, entry_count(row) - 1)):
        raise BadPlace(end)
    least, stand, places = least_read(reader, row)
    name = NONE if end is None else end
    goals = [goal for goal in goals_of(stand, places) if goal[2] == name]
    return end_words(least, goals, lambda behind: True).get(name) if goals else None
