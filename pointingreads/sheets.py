"""Sheets of things, and verdicts on them."""

from pointingreads.blocks import first_parting
from pointingreads.cursors import scanned
from pointingreads.errors import BadName, ReadError
from pointingreads.forms import scan_reader, scan_row, scan_rule, scan_sieve
from pointingreads.least import least_reader
from pointingreads.likes import are_alike
from pointingreads.liverows import spans_blocks
from pointingreads.logs import live_told, scan_log
from pointingreads.lookers import is_looker
from pointingreads.meant import reader_meant
from pointingreads.picking import pick_number
from pointingreads.readers import need_reader
from pointingreads.reading import point
from pointingreads.rows import need_row
from pointingreads.rules import need_rule
from pointingreads.sieves import need_sieve
from pointingreads.steadiness import is_steady
from pointingreads.surroundings import stand_for

SORTS = ("row", "reader", "sieve", "rule", "live")
# what stands behind the word of a verdict: names of things of these sorts, or numbers
VERDICTS = {
    "points": ("reader", "row", "place"), "apart": ("reader", "reader", "row"), "alike": ("reader", "reader"),
    "steady": ("reader",), "looker": ("sieve",), "picks": ("sieve", "row", "number"), "does": ("rule", "reader"),
    "stand": ("reader", "row", "row"), "same": ("row", "row"), "reads": ("live", "row"),
    "joins": ("live", "live", "row"),
}
MOST_DIGITS = 40


def scan_text(cursor, sort):
    """What the text of an entry tells."""
    if sort == "row":
        return scan_row(cursor)
    if sort == "reader":
        return scan_reader(cursor)
    if sort == "sieve":
        return scan_sieve(cursor)
    if sort == "rule":
        return scan_rule(cursor)
    return scan_log(cursor)


def scan_entry(cursor, sort):
    """The entry of a sort whose word has been taken."""
    cursor.take(" ")
    name = cursor.small_name()
    cursor.ahead = "- "
    cursor.new_line()
    told = scan_text(cursor, sort)
    cursor.ahead = ""
    cursor.new_line()
    return (sort, name, told)


def scan_item(cursor, kind):
    """An item of a verdict; a place may be none."""
    cursor.take(" ")
    if kind == "place" and cursor.sees("-"):
        cursor.take("-")
        return None
    if kind in ("place", "number"):
        return cursor.integer(MOST_DIGITS)
    return cursor.small_name()


def scan_verdict(cursor, word):
    """The verdict whose word has been taken."""
    return (word,) + tuple([scan_item(cursor, kind) for kind in VERDICTS[word]])


def scan_sheet(cursor):
    """The entries and the verdicts of a sheet."""
    words = list(VERDICTS)
    entries = []
    word = cursor.word_of(list(SORTS) + words)
    while word in SORTS:
        entries.append(scan_entry(cursor, word))
        word = cursor.word_of(list(SORTS) + words)
    verdicts = [scan_verdict(cursor, word)]
    while cursor.goes_on():
        cursor.new_line()
        verdicts.append(scan_verdict(cursor, cursor.word_of(words)))
    return entries, verdicts


def thing_told(sort, told):
    """The thing of an entry, if it is one."""
    if sort == "row":
        return need_row(told)
    if sort == "reader":
        return need_reader(told)
    if sort == "sieve":
        return need_sieve(told)
    if sort == "rule":
        return need_rule(told)
    return live_told(told)


def sheet_told(text):
    """The entries of a sheet, with their things, and its verdicts."""
    entries, verdicts = scanned(text, scan_sheet)
    known = {}
    for _, name, _ in entries:
        if name in known:
            raise BadName(name)
        known[name] = True
    return tuple([(sort, name, thing_told(sort, told)) for sort, name, told in entries]), verdicts


def sheet_entries(text):
    """The entries of the sheet, each with its sort, its name and its thing."""
    entries, _ = sheet_told(text)
    return entries


def reads_as(live, row):
    """Whether the row of a live row reads as a row."""
    return first_parting(spans_blocks(live.first, live.spans), row) is None


def holds(word, things):
    """Whether a verdict on right things holds; an error if it can't be told."""
    one, two, three = (things + [None, None])[:3]
    if word == "points":
        return point(one, two) == three
    if word == "apart":
        return point(one, three) != point(two, three)
    if word == "alike":
        return are_alike(one, two)
    if word == "steady":
        return is_steady(one)
    if word == "looker":
        return is_looker(one)
    if word == "picks":
        return pick_number(one, two) == three
    if word == "does":
        return least_reader(two) == reader_meant(one, two[0])
    if word == "stand":
        return stand_for(one, two, three) is not None
    if word == "same":
        return first_parting(one, two) is None
    if word == "reads":
        return reads_as(one, two)
    copy = one.twin(one.holder)
    copy.take_over(two)
    return reads_as(copy, three)


def is_so(verdict, table):
    """Whether a verdict is so; table has the sort and the thing of each name."""
    things = []
    for kind, item in zip(VERDICTS[verdict[0]], verdict[1:]):
        if kind in ("place", "number"):
            things.append(item)
        elif table.get(item, (None, None))[0] == kind:
            things.append(table[item][1])
        else:
            return False
    try:
        return holds(verdict[0], things)
    except ReadError:
        return False


def judged(text):
    """For each verdict of the sheet whether it is so."""
    entries, verdicts = sheet_told(text)
    table = {name: (sort, thing) for sort, name, thing in entries}
    return tuple([is_so(verdict, table) for verdict in verdicts])
