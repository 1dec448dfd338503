"""Logs of live rows."""

from pointingreads.blocks import entry_count
from pointingreads.cursors import scanned
from pointingreads.errors import BadNumber, BadPaper
from pointingreads.forms import MARKS, scan_row
from pointingreads.live import MOST_STEPS, Live
from pointingreads.rows import need_row
from pointingreads.texts import row_text

KINDS = ("put", "lost", "marked", "back")
COUNT_DIGITS = 6
PLACE_DIGITS = 35


def tag_text(tag):
    """The item of a tag, of a stamp or of None."""
    if tag is None:
        return "-"
    return str(tag[0]) + "." + tag[1] if type(tag) == tuple else str(tag)


def log_line(step):
    """The line of a step."""
    kind, stamp, tag = step[0], step[1], step[2]
    return " ".join([kind, str(stamp[0]), stamp[1], tag_text(tag)] + [str(mark) for mark in step[3:]])


def log_text(live):
    """The log of a live row."""
    if not isinstance(live, Live):
        raise BadPaper("live")
    return "\n".join([live.holder, row_text(live.first)] + [log_line(step) for step in live.steps])


def scan_stamp(cursor):
    """The item of a stamp of which a step speaks."""
    count = cursor.counted(COUNT_DIGITS)
    cursor.take(".")
    return (count, cursor.small_name())


def scan_tag(cursor):
    """The item of a tag: a place of the first row, or a stamp."""
    if cursor.sees("0"):
        return cursor.integer(1)
    begin = cursor.at
    number = cursor.counted(PLACE_DIGITS)
    if cursor.at - begin <= COUNT_DIGITS and cursor.sees("."):
        cursor.take(".")
        return (number, cursor.small_name())
    return number


def scan_behind(cursor):
    """The item of what a new entry is put in behind."""
    if cursor.sees("-"):
        cursor.take("-")
        return None
    return scan_tag(cursor)


def scan_deed(cursor):
    """The step of a line."""
    kind = cursor.word_of(KINDS)
    cursor.take(" ")
    count = cursor.counted(COUNT_DIGITS)
    cursor.take(" ")
    stamp = (count, cursor.small_name())
    cursor.take(" ")
    if kind == "back":
        return (kind, stamp, scan_stamp(cursor))
    tag = scan_behind(cursor) if kind == "put" else scan_tag(cursor)
    if kind == "lost":
        return (kind, stamp, tag)
    cursor.take(" ")
    return (kind, stamp, tag, int(cursor.take(MARKS)))


def scan_log(cursor):
    """The holder, the first row and the steps of a log."""
    holder = cursor.small_name()
    cursor.new_line()
    row = scan_row(cursor)
    steps = []
    while len(steps) < MOST_STEPS and cursor.goes_on():
        cursor.new_line()
        steps.append(scan_deed(cursor))
    return holder, row, tuple(steps)


def is_let(step, ahead, length):
    """Whether a step may stand behind the steps that are ahead of it."""
    kind, stamp, tag = step[0], step[1], step[2]
    if ahead and stamp <= ahead[-1][1]:
        return False
    if type(tag) == int:
        return tag < length
    if tag is None:
        return True
    known = [told[1] for told in ahead if kind == "back" or told[0] == "put"]
    return tag in known and tag[0] < stamp[0]


def live_told(told):
    """The live row of what a log tells."""
    holder, row, steps = told
    need_row(row)
    length = entry_count(row)
    for number, step in enumerate(steps):
        if not is_let(step, steps[:number], length):
            raise BadNumber(number)
    live = Live(holder, row)
    live.has_steps(steps)
    return live


def read_log(text):
    """The live row that the log tells."""
    return live_told(scanned(text, scan_log))
