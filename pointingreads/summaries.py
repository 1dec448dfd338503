"""Summaries of rows, and of rows put together of parts."""

from pointingreads.behaviours import is_behaviour
from pointingreads.blocks import entry_count
from pointingreads.checks import MOST_TIMES, are_unlike, are_whole, is_tuple, is_whole
from pointingreads.errors import BadNumber, BadPaper, TooGreat
from pointingreads.passages import (
    empty_passage, entries_coming, numbered_ways, passage_joined, passage_of, passage_often,
    placed_ways)
from pointingreads.readers import need_fit, need_reader

MOST_ENTRIES = (10 ** 50) ** 4
MOST_TREES = 400
MOST_DEEP = 12
MOST_JOINED = 200


def is_summary(reader, value):
    """Whether any value has the form of a summary."""
    if not is_tuple(value, 3, 3):
        return False
    length, told, places = value
    if not (is_whole(length, 0, MOST_ENTRIES) and is_behaviour(reader, told)):
        return False
    many = entries_coming(told)
    return is_tuple(places, many, many) and are_whole(places, 0, length - 1) and are_unlike(places)


def summary_told(passage):
    """The summary of a row with a passage."""
    length, ways = passage
    told, places = numbered_ways(ways)
    return (length, told, places)


def passage_told(value):
    """The passage that a summary tells."""
    length, told, places = value
    return (length, placed_ways(told, places))


def need_length(length):
    """Refuses more entries than a summary may have."""
    if length > MOST_ENTRIES:
        raise TooGreat(MOST_ENTRIES)


def summary(reader, row):
    """The summary of the row."""
    need_fit(reader, row)
    return summary_told(passage_of(reader, row))


def need_summary(reader, value):
    """The value, if it has the form of a summary."""
    need_reader(reader)
    if not is_summary(reader, value):
        raise BadPaper("summary")
    return value


def summaries_merged(reader, value, other_value):
    """Both summaries merged."""
    need_summary(reader, value)
    need_summary(reader, other_value)
    need_length(value[0] + other_value[0])
    return summary_told(passage_joined(passage_told(value), passage_told(other_value)))


def summary_often(reader, value, times):
    """The summary merged with itself so many times."""
    need_summary(reader, value)
    if not is_whole(times, 0, MOST_TIMES):
        raise BadNumber(times)
    need_length(value[0] * times)
    return summary_told(passage_often(reader, passage_told(value), times))


def parts_of(value):
    """The parts of what has the form of a tree, None of any other value."""
    if not (is_tuple(value, 2, 3) and type(value[0]) == str):
        return None
    if value[0] == "row" and len(value) == 2:
        return ()
    if value[0] == "join" and len(value) == 2:
        return value[1] if is_tuple(value[1], 0, MOST_JOINED) else None
    if value[0] == "times" and len(value) == 3:
        return (value[1],) if is_whole(value[2], 0, MOST_TIMES) else None
    return None


def is_tree(value):
    """Whether any value is a tree, whatever stands in the place of a row."""
    todo = [(value, 1)]
    many = 0
    while todo:
        thing, deep = todo.pop()
        parts = parts_of(thing)
        many += 1
        if parts is None or deep > MOST_DEEP or many > MOST_TREES:
            return False
        todo.extend([(part, deep + 1) for part in parts])
    return True


def need_tree(tree):
    """Refuses what is no tree."""
    if not is_tree(tree):
        raise BadPaper("tree")


def tree_rows(tree):
    """All that stands in the place of a row, from the left."""
    if tree[0] == "row":
        return [tree[1]]
    return [row for part in parts_of(tree) for row in tree_rows(part)]


def tree_lengths(tree):
    """How many entries a tree and each tree in it have, the tree itself last."""
    if tree[0] == "row":
        return [entry_count(tree[1])]
    parts = [tree_lengths(part) for part in parts_of(tree)]
    whole = sum([lengths[-1] for lengths in parts])
    if tree[0] == "times":
        whole = whole * tree[2]
    return [length for lengths in parts for length in lengths] + [whole]


def tree_passage(reader, tree):
    """The passage of the row for which a tree stands."""
    if tree[0] == "row":
        return passage_of(reader, tree[1])
    found = empty_passage(reader)
    for part in parts_of(tree):
        found = passage_joined(found, tree_passage(reader, part))
    return passage_often(reader, found, tree[2]) if tree[0] == "times" else found


def tree_summary(reader, tree):
    """The summary of the row for which the tree of parts stands."""
    need_reader(reader)
    need_tree(tree)
    for row in tree_rows(tree):
        need_fit(reader, row)
    for length in tree_lengths(tree):
        need_length(length)
    return summary_told(tree_passage(reader, tree))


def summary_point(reader, value):
    """The place that is pointed at if the summary is read from stand 0, or None."""
    need_summary(reader, value)
    _, told, places = value
    stand, hold = told[0]
    hand = reader[3][stand]
    # stand 0 has no hands, so what is held is an entry
    return None if hand < 0 else places[-1 - hold[hand]]
