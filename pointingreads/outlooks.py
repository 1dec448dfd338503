"""What one change can do to the points of a reader, told for all rows."""

from pointingreads.changes import KINDS, last_place
from pointingreads.checks import is_tuple
from pointingreads.errors import BadName
from pointingreads.forks import outcome_words, outcomes_known
from pointingreads.outcomes import outcome_of
from pointingreads.readers import need_reader


def check_kind(kind):
    """Refuses what is no kind of changes."""
    if not (type(kind) == str and kind in KINDS):
        raise BadName(kind)


def outlook(reader, kind):
    """All outcomes that come, ascending."""
    need_reader(reader)
    check_kind(kind)
    return tuple(sorted(outcome_words(reader, kind, outcomes_known(kind))))


def all_changes(kind, length, sorts):
    """All changes of a kind, with marks below sorts, that rows of a length have, ascending."""
    places = list(range(last_place(kind, length) + 1))
    if kind in ("lost", "turned"):
        return [(kind, place) for place in places]
    return [(kind, place, mark) for place in places for mark in range(sorts)]


def least_outcome(reader, kind, pair):
    """The least row and change with the outcome, or None."""
    need_reader(reader)
    check_kind(kind)
    if not (is_tuple(pair, 2, 2) and all([type(name) == str for name in pair])):
        return None
    if pair not in outcomes_known(kind):
        return None
    word = outcome_words(reader, kind, [pair]).get(pair)
    if word is None:
        return None
    row = () if word == () else ((word, 1),)
    for change in all_changes(kind, len(word), reader[0]):
        if outcome_of(reader, row, change) == pair:
            return (word, change)
    return None
