"""Trees of parts: rows put together of rows."""

from pointingreads.blocks import entry_count
from pointingreads.checks import MOST_TIMES, is_tuple, is_whole
from pointingreads.errors import BadPaper
from pointingreads.passages import empty_passage, passage_joined, passage_of, passage_often

MOST_TREES = 400
MOST_DEEP = 12
MOST_JOINED = 200


def parts_of(value):
    """The parts of what has the form of a tree, None of any other value."""
    if not (is_tuple(value, 2, 3) and type(value[0]) == str):
        return None
    if value[0] == "row" and len(value) == 2:
        return ()
    if value[0] == "join" and len(value) == 2:
        return value[1] if is_tuple(value[1], 0, MOST_JOINED) else None
    if value[0] == "times" and len(value) == 3:
        return (value[1],) if is_whole(value[2], 0, MOST_TIMES) else None
    return None


def is_tree(value):
    """Whether any value is a tree, whatever stands in the place of a row."""
    todo = [(value, 1)]
    many = 0
    while todo:
        thing, deep = todo.pop()
        parts = parts_of(thing)
        many += 1
        if parts is None or deep > MOST_DEEP or many > MOST_TREES:
            return False
        todo.extend([(part, deep + 1) for part in parts])
    return True


def need_tree(tree):
    """Refuses what is no tree."""
    if not is_tree(tree):
        raise BadPaper("tree")


def tree_rows(tree):
    """All that stands in the place of a row, from the left."""
    if tree[0] == "row":
        return [tree[1]]
    return [row for part in parts_of(tree) for row in tree_rows(part)]


def tree_lengths(tree):
    """How many entries a tree and each tree in it have, the tree itself last."""
    if tree[0] == "row":
        return [entry_count(tree[1])]
    parts = [tree_lengths(part) for part in parts_of(tree)]
    whole = sum([lengths[-1] for lengths in parts])
    if tree[0] == "times":
        whole = whole * tree[2]
    return [length for lengths in parts for length in lengths] + [whole]


def tree_passage(reader, tree):
    """The passage of the row for which a tree stands."""
    if tree[0] == "row":
        return passage_of(reader, tree[1])
    found = empty_passage(reader)
    for part in parts_of(tree):
        found = passage_joined(found, tree_passage(reader, part))
    return passage_often(reader, found, tree[2]) if tree[0] == "times" else found
