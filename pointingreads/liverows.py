"""What the steps of a live row make of its first row.

A span is a triple (TAG, MANY, MARK) of entries that are seen: of MANY entries of the first row
from the place TAG on, with their own marks, if MARK is None; otherwise of the one entry TAG.
"""

from pointingreads.blocks import entry_count, entry_mark, part_of


def forces(steps):
    """For each stamp whether its step is in force."""
    found = {}
    taken = {}
    for step in steps[::-1]:
        found[step[1]] = step[1] not in taken
        if step[0] == "back" and found[step[1]]:
            taken[step[2]] = True
    return found


def steps_in_force(steps):
    """The steps that are in force, in their order."""
    found = forces(steps)
    return [step for step in steps if found[step[1]]]


def puts_behind(steps):
    """For each tag behind which something was put, also None, the put steps, the greatest stamps first."""
    found = {}
    for step in steps[::-1]:
        if step[0] == "put":
            found.setdefault(step[2], []).append(step)
    return found


def put_order(puts, tag):
    """The put steps of the entries behind a tag up to the next entry of the first row, in the order of the row."""
    found = []
    # what is still to be told, the next one last
    todo = puts.get(tag, [])[::-1]
    while todo:
        step = todo.pop()
        found.append(step)
        todo.extend(puts.get(step[1], [])[::-1])
    return found


def marks_known(steps):
    """For each tag of an entry that was put in or marked by some steps its mark; all these are in force."""
    found = {}
    for step in steps:
        if step[0] == "put":
            found.setdefault(step[1], step[3])
        if step[0] == "marked":
            found[step[2]] = step[3]
    return found


def lost_tags(steps):
    """The tags of which a lost step in force or a put step that is not in force speaks, as a dict."""
    found = forces(steps)
    told = {}
    for step in steps:
        if step[0] == "lost" and found[step[1]]:
            told[step[2]] = True
        if step[0] == "put" and not found[step[1]]:
            told[step[1]] = True
    return told


def places_told(steps):
    """The places of the first row of which the steps speak, ascending."""
    return sorted(set([step[2] for step in steps if step[0] != "back" and type(step[2]) == int]))


def spans_of(first, steps):
    """The spans of a live row, in the order of the row."""
    marks = marks_known(steps_in_force(steps))
    lost = lost_tags(steps)
    puts = puts_behind(steps)
    found = [(step[1], 1, marks[step[1]]) for step in put_order(puts, None) if step[1] not in lost]
    ahead = 0
    for place in places_told(steps):
        found.append((ahead, place - ahead, None))
        if place not in lost:
            found.append((place, 1, marks.get(place)))
        found.extend([(step[1], 1, marks[step[1]]) for step in put_order(puts, place) if step[1] not in lost])
        ahead = place + 1
    found.append((ahead, entry_count(first) - ahead, None))
    return tuple([span for span in found if span[1] > 0])


def spans_length(spans):
    """How many entries some spans have."""
    return sum([many for _, many, _ in spans])


def spans_blocks(first, spans):
    """The blocks that read as some spans."""
    found = []
    for tag, many, mark in spans:
        if mark is None:
            found.extend(part_of(first, tag, tag + many))
        else:
            found.append(((mark,), 1))
    return tuple(found)


def tag_in(span, number):
    """The tag of an entry of a span."""
    return span[0] if span[2] is not None else span[0] + number


def tag_of_place(spans, place):
    """The tag of the entry at a place at which there is one."""
    for span in spans:
        if place < span[1]:
            return tag_in(span, place)
        place -= span[1]
    return None


def place_of_tag(spans, tag):
    """The place of the entry with a tag, None if it isn't seen."""
    ahead = 0
    for span in spans:
        begin, many, mark = span
        if mark is not None and tag == begin:
            return ahead
        if type(tag) == int and mark is None and begin <= tag < begin + many:
            return ahead + tag - begin
        ahead += many
    return None


def mark_of_tag(first, steps, tag):
    """The mark of the entry with a tag, whether it is seen or not."""
    told = [step[3] for step in steps_in_force(steps) if step[0] == "marked" and step[2] == tag]
    if told:
        return told[-1]
    if type(tag) == int:
        return entry_mark(first, tag)
    return [step[3] for step in steps if step[0] == "put" and step[1] == tag][0]


def spans_between(spans, place, many):
    """The spans of so many entries from a place on, of fewer where the row ends."""
    found = []
    for tag, size, mark in spans:
        low, high = min(place, size), min(place + many, size)
        if low < high:
            found.append((tag if mark is not None else tag + low, high - low, mark))
        place, many = max(place - size, 0), many - (high - low)
    return found
