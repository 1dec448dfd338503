"""Whether two readers point alike, and papers that show it."""

from pointingreads.checks import is_tuple, is_whole
from pointingreads.errors import BadPaper
from pointingreads.folding import folded
from pointingreads.patterns import FIRST_PATTERN, MOST_PATTERNS, is_pattern, pattern_behind, patterns_told
from pointingreads.rows import MOST_WORD
from pointingreads.signs import word_point
from pointingreads.twofold import need_two, word_against

ALIKE = ("none", "same")


def unlike_word(reader, other):
    """The least row with unlike points, or None."""
    if folded(reader) == folded(other):
        return None
    return word_against(reader, other, ALIKE)


def are_alike(reader, other):
    """Whether both point alike for all rows."""
    need_two(reader, other)
    return folded(reader) == folded(other)


def parting_row(reader, other):
    """The least row with unlike points, or None."""
    need_two(reader, other)
    return unlike_word(reader, other)


def likeness_paper(reader, other):
    """A paper that shows that two readers are alike, or that they are not."""
    need_two(reader, other)
    word = unlike_word(reader, other)
    if word is not None:
        return ("apart", word)
    return ("alike", patterns_told(reader, other, MOST_PATTERNS))


def point_alike(reader, other, pattern):
    """Whether both readers point at one entry of a pattern, or both at none."""
    stand, other_stand, holds = pattern
    hand, other_hand = reader[3][stand], other[3][other_stand]
    if hand < 0 or other_hand < 0:
        return hand < 0 and other_hand < 0
    return (hand, other_hand) in holds


def has_form(reader, other, paper):
    """Whether any value has the form of a paper on likeness."""
    if not (is_tuple(paper, 2, 2) and type(paper[0]) == str and type(paper[1]) == tuple):
        return False
    word, things = paper
    if word == "apart":
        return len(things) <= MOST_WORD and all([is_whole(mark, 0, reader[0] - 1) for mark in things])
    if word != "alike" or not all([is_pattern(reader, other, thing) for thing in things]):
        return False
    return FIRST_PATTERN in things and len(set(things)) == len(things)


def are_closed(reader, other, things):
    """Whether with each pattern those to which it goes are among some patterns."""
    known = {thing: True for thing in things}
    for thing in things:
        for mark in range(reader[0]):
            if pattern_behind(reader, other, thing, mark) not in known:
                return False
    return True


def need_likeness_paper(reader, other, paper):
    """The paper, if it is a right one."""
    need_two(reader, other)
    if not has_form(reader, other, paper):
        raise BadPaper("form")
    word, things = paper
    if word == "apart":
        if word_point(reader, things) == word_point(other, things):
            raise BadPaper("point")
        return paper
    if not are_closed(reader, other, things):
        raise BadPaper("step")
    if not all([point_alike(reader, other, thing) for thing in things]):
        raise BadPaper("point")
    return paper
