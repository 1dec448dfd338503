"""The fewest changes that make an entry the point, or move the point away."""

from pointingreads.blocks import all_marks
from pointingreads.folding import folded
from pointingreads.places import need_entry
from pointingreads.reading import row_point
from pointingreads.readers import need_fit
from pointingreads.rows import need_short
from pointingreads.twofold import hand_steps

# where the entry in question is, if it is in no hand
AHEAD = -1
GONE = -2


class Edits:
    """What can be done along a word as a reader reads what it becomes.

    An item is a triple (PLACE, STAND, HAND): how many entries of the word have been looked at,
    the stand behind what has become of them, and the hand with the entry in question, AHEAD or
    GONE. entry is its place, None if there is no entry in question; can_mark tells whether it
    may be marked, and can_go whether it may be let go.
    """

    def __init__(self, least, marks, entry, can_mark, can_go):
        self.steps = hand_steps(least)
        self.word = marks
        self.entry = entry
        self.can_mark = can_mark
        self.can_go = can_go

    def read(self, item, mark, taken):
        """The items behind a mark that is read at an item; taken tells whether that is of an entry of the word."""
        place, stand, hand = item
        behind, new, goes = self.steps[stand][mark]
        if taken and place == self.entry:
            hand = new if new >= 0 else GONE
        elif hand >= 0:
            hand = goes[hand] if goes[hand] >= 0 else GONE
        if hand == GONE and not self.can_go:
            return []
        return [(place + 1 if taken else place, behind, hand)]

    def nexts(self, item):
        """The triples (COST, EDIT, ITEM) from an item; EDIT is a pair of a kind and a mark or None."""
        place = item[0]
        sorts = len(self.steps[0])
        found = []
        for mark in range(sorts):
            found.extend([(1, ("put", mark), behind) for behind in self.read(item, mark, False)])
        if place == len(self.word):
            return found
        if place != self.entry:
            found.append((1, ("lost", None), (place + 1,) + item[1:]))
        for mark in range(sorts):
            if mark == self.word[place]:
                found.extend([(0, ("kept", None), behind) for behind in self.read(item, mark, True)])
            elif place != self.entry or self.can_mark:
                found.extend([(1, ("marked", mark), behind) for behind in self.read(item, mark, True)])
        return found


def fewest_edits(edits, is_right):
    """The edits of a cheapest way to an item at the end of the word that is right, or None."""
    ahead = {}
    layer = [((0, 0, AHEAD), None, None)]
    while layer:
        dearer = []
        while layer:
            item, edit, before = layer.pop()
            if item in ahead:
                continue
            ahead[item] = (edit, before)
            if item[0] == len(edits.word) and is_right(item):
                return edits_to(ahead, item)
            told = edits.nexts(item)
            for cost, kind, behind in told:
                if cost > 0:
                    dearer.append((behind, kind, item))
                else:
                    layer.append((behind, kind, item))
        layer = dearer
    return None


def edits_to(ahead, item):
    """The edits that lead to an item, the first one first."""
    found = []
    while ahead[item][1] is not None:
        edit, item = ahead[item]
        found.append(edit)
    return found[::-1]


def script_of(edits):
    """The changes of the edits, each on the row that there is then."""
    if edits is None:
        return None
    place = 0
    found = []
    for kind, mark in edits:
        if kind == "lost":
            found.append((kind, place))
        else:
            if kind != "kept":
                found.append((kind, place, mark))
            place += 1
    return tuple(found)


def script_to(reader, row, place):
    """A shortest script behind which the entry at the place is the point, or None."""
    need_fit(reader, row)
    need_entry(row, place)
    need_short(row)
    least = folded(reader)
    edits = Edits(least, all_marks(row), place, True, False)
    return script_of(fewest_edits(edits, lambda item: item[2] >= 0 and least[3][item[1]] == item[2]))


def fewest_to(reader, row, place):
    """How many changes a shortest script has behind which the entry is the point, or None."""
    script = script_to(reader, row, place)
    return None if script is None else len(script)


def script_off(reader, row):
    """A shortest script behind which another entry or none is the point, or any one if there was none."""
    need_fit(reader, row)
    need_short(row)
    least = folded(reader)
    place = row_point(least, row)
    edits = Edits(least, all_marks(row), place, False, True)
    if place is None:
        return script_of(fewest_edits(edits, lambda item: least[3][item[1]] >= 0))
    return script_of(fewest_edits(edits, lambda item: least[3][item[1]] != item[2]))


def fewest_off(reader, row):
    """How many changes a shortest script has behind which the point is another one, or None."""
    script = script_off(reader, row)
    return None if script is None else len(script)
