"""Readers for which no turn changes the mark that is pointed at."""

from pointingreads.classes import refined
from pointingreads.folding import folded
from pointingreads.reading import row_point
from pointingreads.readers import need_reader
from pointingreads.searching import explored, least_words

MOST_PAIRS = 2000


def marks_behind(step, marks, mark):
    """The marks of the entries in the hands behind a step."""
    return tuple([mark if hand < 0 else marks[hand] for hand in step[1]])


def marks_classes(reader):
    """For each pair of a stand and the marks in its hands that comes its class, and the classes' moves.

    Pairs of one class have the same mark pointed at behind all rows to come. TooGreat(2000).
    """
    sorts, _, steps, points = folded(reader)
    order, moves = explored(
        (0, ()),
        lambda pair: [
            (step[0], marks_behind(step, pair[1], mark)) for mark, step in enumerate(steps[pair[0]])
        ],
        MOST_PAIRS)
    keys = [None if points[stand] < 0 else marks[points[stand]] for stand, marks in order]
    classes = refined(keys, moves, None)
    table = {}
    for number, row in enumerate(moves):
        table[classes[number]] = (keys[number], [classes[behind] for behind in row])
    return classes[0], table


def turned_pairs(sorts):
    """All pairs of unlike marks, the lesser one first."""
    return [(mark, other) for mark in range(sorts) for other in range(mark + 1, sorts)]


def two_behind(table, at, mark, other):
    """The class behind two marks."""
    return table[table[at][1][mark]][1][other]


def is_even(reader):
    """Whether the reader is even."""
    need_reader(reader)
    _, table = marks_classes(reader)
    return all([
        two_behind(table, at, mark, other) == two_behind(table, at, other, mark)
        for at in table for mark, other in turned_pairs(reader[0])
    ])


def turns_behind(table, item, sorts):
    """For each mark the items behind it.

    Items are (CLASS, None, None) ahead of a turn, (CLASS, MARK, None) within it, and
    (CLASS, None, CLASS) with unlike classes behind it, as the row is and as it is turned.
    """
    at, held, other = item
    found = []
    for mark in range(sorts):
        told = []
        if held is not None:
            pair = (two_behind(table, at, held, mark), two_behind(table, at, mark, held))
        elif other is not None:
            pair = (table[at][1][mark], table[other][1][mark])
        else:
            told = [(table[at][1][mark], None, None), (at, mark, None)]
            pair = (at, at)
        # what is alike once stays so
        if pair[0] != pair[1]:
            told.append((pair[0], None, pair[1]))
        found.append(told)
    return found


def even_break(reader):
    """None, or the least row with a turn that changes the mark that is pointed at, and the place of it."""
    need_reader(reader)
    start, table = marks_classes(reader)
    found = least_words(
        [(start, None, None)],
        lambda item: turns_behind(table, item, reader[0]),
        lambda item: item[2] is not None and table[item[0]][0] != table[item[2]][0],
        [True])
    word = found.get(True)
    if word is None:
        return None
    told = mark_told(reader, word)
    for place in range(len(word) - 1):
        turned = word[:place] + (word[place + 1], word[place]) + word[place + 2:]
        if mark_told(reader, turned) != told:
            return (word, place)
    return None


def mark_told(reader, word):
    """The mark of a word that is pointed at, or None."""
    place = row_point(reader, ((word, 1),))
    return None if place is None else word[place]
