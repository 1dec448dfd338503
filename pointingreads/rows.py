"""Rows and words."""

from pointingreads.blocks import all_marks, entry_count, entry_mark, marks_from
from pointingreads.checks import is_block, is_tuple, is_whole
from pointingreads.errors import BadMark, BadNumber, BadRow, TooGreat
from pointingreads.places import need_border, need_entry

MOST_BLOCKS = 60
SHORT = 300
MOST_WORD = 20000
MOST_PLAIN = 3600


def need_row(row):
    """The row, if it is one."""
    if not is_tuple(row, 0, MOST_BLOCKS):
        raise BadRow(None)
    for place, block in enumerate(row):
        if not is_block(block):
            raise BadRow(place)
    return row


def is_row(value):
    """Whether any value is a row."""
    return is_tuple(value, 0, MOST_BLOCKS) and all([is_block(block) for block in value])


def need_word(word, sorts=4):
    """The word, if it is one with marks below sorts."""
    if not is_tuple(word, 0, MOST_WORD):
        raise BadMark(word)
    for mark in word:
        if not is_whole(mark, 0, sorts - 1):
            raise BadMark(mark)
    return word


def need_short(row):
    """Refuses a row that is not short; it is looked at behind all other things."""
    if entry_count(row) > SHORT:
        raise TooGreat(SHORT)


def length_of(row):
    """How many entries the row has."""
    need_row(row)
    return entry_count(row)


def flat(row):
    """The word of a short row."""
    need_row(row)
    need_short(row)
    return all_marks(row)


def plain(word):
    """The plain row of a word."""
    need_word(word)
    if len(word) > MOST_PLAIN:
        raise TooGreat(MOST_PLAIN)
    return tuple([(word[at:at + 60], 1) for at in range(0, len(word), 60)])


def mark_at(row, place):
    """The mark of the entry at the place."""
    need_row(row)
    need_entry(row, place)
    return entry_mark(row, place)


def window(row, place, many):
    """The marks of so many entries from the place on."""
    need_row(row)
    need_border(row, place)
    if not is_whole(many, 0, min(SHORT, entry_count(row) - place)):
        raise BadNumber(many)
    return marks_from(row, place, many)
