"""Readers that never mind the loss of an entry at which they do not point."""

from pointingreads.errors import NotSteady
from pointingreads.forks import Forks
from pointingreads.outcomes import outcome_of
from pointingreads.ranked import ranking_told
from pointingreads.readers import need_reader
from pointingreads.searching import least_words

# the outcomes of a loss that changes the point where the entry is not the point
BREAKS = (("none", "other"), ("other", "none"), ("other", "other"))


def break_word(reader, marks):
    """The least row in which the loss of an unpointed entry with one of the marks changes the point."""
    forks = Forks(reader, "lost", marks)
    found = least_words(forks.starts(), forks.nexts, lambda fork: forks.outcome(fork) in BREAKS, [True])
    return found.get(True)


def is_steady(reader):
    """Whether the reader is steady."""
    need_reader(reader)
    return ranking_told(reader) is not None


def ranking_of(reader):
    """The ranking whose best entry is the point of every row."""
    need_reader(reader)
    ranking = ranking_told(reader)
    if ranking is None:
        raise NotSteady()
    return ranking


def harmless_marks(reader):
    """The harmless marks, ascending."""
    need_reader(reader)
    marks = list(range(reader[0]))
    if ranking_told(reader) is not None:
        return tuple(marks)
    return tuple([mark for mark in marks if break_word(reader, (mark,)) is None])


def steady_break(reader):
    """None, or the least row with a loss that a steady reader would not mind, and the place of it."""
    need_reader(reader)
    if ranking_told(reader) is not None:
        return None
    word = break_word(reader, list(range(reader[0])))
    row = ((word, 1),)
    for place in range(len(word)):
        if outcome_of(reader, row, ("lost", place)) in BREAKS:
            return (word, place)
    return None
