"""Rows that several holders change, each one a copy of his own."""

from pointingreads.blocks import all_marks, entry_count
from pointingreads.checks import is_whole
from pointingreads.errors import BadMark, BadName, BadNumber, BadPaper, BadPlace, TooGreat
from pointingreads.lettering import is_name
from pointingreads.liverows import (
    forces, mark_of_tag, place_of_tag, spans_between, spans_blocks, spans_length, spans_of, tag_in, tag_of_place)
from pointingreads.reading import row_point
from pointingreads.readers import need_reader
from pointingreads.rows import MOST_BLOCKS, need_row

MOST_STEPS = 40
MOST_COUNT = 999999
MOST_WINDOW = 300


def is_stamp(value):
    """Whether any value is a stamp."""
    if not (type(value) == tuple and len(value) == 2):
        return False
    return is_whole(value[0], 1, MOST_COUNT) and is_name(value[1])


def need_name(value):
    """Refuses what is no name."""
    if not is_name(value):
        raise BadName(value)


class Live:
    """A live row."""

    def __init__(self, holder, row):
        need_name(holder)
        self.holder = holder
        self.first = need_row(row)
        self.steps = ()
        self.spans = spans_of(row, ())

    def __eq__(self, other):
        return isinstance(other, Live) and self.first == other.first and self.steps == other.steps

    @property
    def length(self):
        """How many entries the row has."""
        return spans_length(self.spans)

    def need_entry(self, place):
        """Refuses what is no place of the row."""
        if not is_whole(place, 0, self.length - 1):
            raise BadPlace(place)

    def need_border(self, place):
        """Refuses what is no number from 0 to the length."""
        if not is_whole(place, 0, self.length):
            raise BadPlace(place)

    def need_stamp(self, stamp):
        """Refuses what is no stamp of the steps."""
        if not (is_stamp(stamp) and stamp in [step[1] for step in self.steps]):
            raise BadNumber(stamp)

    def need_tag(self, tag):
        """Refuses what is no tag of an entry."""
        is_put = is_stamp(tag) and tag in [step[1] for step in self.steps if step[0] == "put"]
        if not (is_put or is_whole(tag, 0, entry_count(self.first) - 1)):
            raise BadName(tag)

    def has_steps(self, steps):
        """Makes these the steps."""
        self.steps = steps
        self.spans = spans_of(self.first, steps)

    def makes(self, kind, things):
        """Makes one more step; its stamp."""
        if len(self.steps) >= MOST_STEPS:
            raise TooGreat(MOST_STEPS)
        count = self.steps[-1][1][0] + 1 if self.steps else 1
        if count > MOST_COUNT:
            raise TooGreat(MOST_COUNT)
        stamp = (count, self.holder)
        self.has_steps(self.steps + ((kind, stamp) + things,))
        return stamp

    def put(self, place, mark):
        """Puts a new entry in at the place; the stamp."""
        self.need_border(place)
        if not is_whole(mark, 0, 3):
            raise BadMark(mark)
        behind = None if place == 0 else tag_of_place(self.spans, place - 1)
        return self.makes("put", (behind, mark))

    def lose(self, place):
        """Takes the entry at the place away; the stamp."""
        self.need_entry(place)
        return self.makes("lost", (tag_of_place(self.spans, place),))

    def remark(self, place, mark):
        """Gives the entry at the place a mark; the stamp."""
        self.need_entry(place)
        if not is_whole(mark, 0, 3):
            raise BadMark(mark)
        return self.makes("marked", (tag_of_place(self.spans, place), mark))

    def take_back(self, stamp):
        """Takes back the step with the stamp; the stamp of doing so."""
        self.need_stamp(stamp)
        return self.makes("back", (stamp,))

    def take_over(self, other):
        """Has the steps of the other copy, too."""
        if not isinstance(other, Live):
            raise BadPaper("live")
        if self.first != other.first:
            raise BadPaper("first")
        known = {step[1]: step for step in self.steps}
        if any([known.get(step[1], step) != step for step in other.steps]):
            raise BadPaper("stamp")
        steps = self.steps + tuple([step for step in other.steps if step[1] not in known])
        if len(steps) > MOST_STEPS:
            raise TooGreat(MOST_STEPS)
        self.has_steps(tuple(sorted(steps, key=lambda step: step[1])))

    def twin(self, holder):
        """Another copy with the same first row and steps."""
        found = Live(holder, self.first)
        found.has_steps(self.steps)
        return found

    def tag_at(self, place):
        """The tag of the entry at the place."""
        self.need_entry(place)
        return tag_of_place(self.spans, place)

    def place_of(self, tag):
        """The place of the entry with the tag, None if it isn't seen."""
        self.need_tag(tag)
        return place_of_tag(self.spans, tag)

    def mark_of(self, tag):
        """The mark of the entry with the tag, whether it is seen or not."""
        self.need_tag(tag)
        return mark_of_tag(self.first, self.steps, tag)

    def is_in_force(self, stamp):
        """Whether the step with the stamp is in force."""
        self.need_stamp(stamp)
        return forces(self.steps)[stamp]

    def some_spans(self, place, many):
        """The spans of so many entries from the place on, of fewer where the row ends."""
        self.need_border(place)
        if not is_whole(many, 0, MOST_WINDOW):
            raise BadNumber(many)
        return spans_between(self.spans, place, many)

    def marks(self, place, many):
        """The marks of so many entries from the place on, of fewer where the row ends."""
        return all_marks(spans_blocks(self.first, self.some_spans(place, many)))

    def tags(self, place, many):
        """The tags of so many entries from the place on, of fewer where the row ends."""
        spans = self.some_spans(place, many)
        return tuple([tag_in(span, number) for span in spans for number in range(span[1])])

    def parts(self):
        """Rows that read, one behind the other, as the row."""
        blocks = spans_blocks(self.first, self.spans)
        return tuple([blocks[at:at + MOST_BLOCKS] for at in range(0, len(blocks), MOST_BLOCKS)])

    def point(self, reader):
        """The tag of the entry at which the reader points, or None."""
        need_reader(reader)
        blocks = spans_blocks(self.first, self.spans)
        greatest = max([max(marks) for marks, _ in blocks] + [-1])
        if greatest >= reader[0]:
            raise BadMark(greatest)
        place = row_point(reader, blocks)
        return None if place is None else tag_of_place(self.spans, place)
