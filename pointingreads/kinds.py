"""The kinds of rows, by what they hand on."""

from pointingreads.behaviours import behaviour_of, behaviours_kept
from pointingreads.checks import is_whole
from pointingreads.errors import BadNumber
from pointingreads.folding import folded
from pointingreads.passages import entries_coming
from pointingreads.readers import need_fit, need_reader
from pointingreads.searching import explored

MOST_KINDS = 300


def kinds_told(least):
    """The behaviours of all kinds, in their order, and for each the kinds behind one mark more."""
    empty, _ = behaviour_of(least, ())
    single = [behaviour_of(least, (((mark,), 1),))[0] for mark in range(least[0])]
    return explored(empty, lambda told: [behaviours_kept(told, one)[0] for one in single], MOST_KINDS)


def kind_words(moves):
    """The least words of the kinds."""
    words = [()]
    for number, row in enumerate(moves):
        for mark, behind in enumerate(row):
            if behind == len(words):
                words.append(words[number] + (mark,))
    return words


def part_kinds(reader):
    """For each kind its least word, and how many entries it hands on."""
    need_reader(reader)
    order, moves = kinds_told(folded(reader))
    return tuple([(word, entries_coming(told)) for word, told in zip(kind_words(moves), order)])


def kind_of(reader, row):
    """The number of the kind of the row."""
    need_fit(reader, row)
    least = folded(reader)
    order, _ = kinds_told(least)
    return order.index(behaviour_of(least, row)[0])


def kind_product(reader, number, other_number):
    """The kind of a row of the one kind and one of the other behind it, and what is handed on of both."""
    need_reader(reader)
    order, _ = kinds_told(folded(reader))
    for value in (number, other_number):
        if not is_whole(value, 0, len(order) - 1):
            raise BadNumber(value)
    told, kept = behaviours_kept(order[number], order[other_number])
    return (order.index(told), kept)


def width(reader):
    """The greatest number of entries that a row hands on, and the least word that hands on so many."""
    need_reader(reader)
    order, moves = kinds_told(folded(reader))
    many = [entries_coming(told) for told in order]
    return (max(many), kind_words(moves)[many.index(max(many))])


def idle_word(reader):
    """The least word that isn't empty and stands for the empty row, or None."""
    need_reader(reader)
    _, moves = kinds_told(folded(reader))
    words = kind_words(moves)
    for number, row in enumerate(moves):
        for mark, behind in enumerate(row):
            if behind == 0:
                return words[number] + (mark,)
    return None


def is_forgetting(told):
    """Whether a behaviour for a least reader is that of a forgetting row."""
    return all([way == told[0] for way in told]) and all([thing < 0 for thing in told[0][1]])


def forgetting_word(reader):
    """The least word that is forgetting, or None."""
    need_reader(reader)
    order, moves = kinds_told(folded(reader))
    for word, told in zip(kind_words(moves), order):
        if is_forgetting(told):
            return word
    return None
