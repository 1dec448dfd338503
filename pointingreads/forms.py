"""The forms of texts: what they tell, whether it is a right thing or not."""

from pointingreads.lettering import MOST_LETTERS, SMALL
from pointingreads.rows import MOST_BLOCKS

MOST_MARKS = 60
MOST_DIGITS = 31
MOST_STANDS = 200
MOST_HANDS = 8
MOST_STATES = 64
MOST_BRACKETS = 40
MARKS = "0123"
SORTS = "1234"
HANDS = "01234567"


def scan_block(cursor):
    """The block of an item."""
    marks = tuple([int(mark) for mark in cursor.some(MARKS, MOST_MARKS)])
    if not cursor.sees("*"):
        return (marks, 1)
    cursor.take("*")
    return (marks, cursor.counted(MOST_DIGITS))


def scan_row(cursor):
    """The row of a line."""
    if cursor.sees("-"):
        cursor.take("-")
        return ()
    blocks = [scan_block(cursor)]
    while len(blocks) < MOST_BLOCKS and cursor.sees(" "):
        cursor.take(" ")
        blocks.append(scan_block(cursor))
    return tuple(blocks)


def scan_step(cursor):
    """A step of a reader."""
    cursor.take(" ")
    stand = cursor.integer(3)
    cursor.take(":")
    if cursor.sees("-"):
        cursor.take("-")
        return (stand, ())
    hands = cursor.some("+" + HANDS, MOST_HANDS)
    return (stand, tuple([-1 if hand == "+" else int(hand) for hand in hands]))


def scan_stand(cursor, sorts):
    """The line of a stand: how many hands it has, at which it points, and its steps."""
    held = int(cursor.take(HANDS + "8"))
    cursor.take(" ")
    hand = cursor.take("-" + HANDS)
    steps = tuple([scan_step(cursor) for _ in range(sorts)])
    return held, -1 if hand == "-" else int(hand), steps


def scan_reader(cursor):
    """A reader."""
    sorts = int(cursor.take(SORTS))
    cursor.new_line()
    stands = [scan_stand(cursor, sorts)]
    while len(stands) < MOST_STANDS and cursor.goes_on():
        cursor.new_line()
        stands.append(scan_stand(cursor, sorts))
    return (
        sorts, tuple([held for held, _, _ in stands]), tuple([steps for _, _, steps in stands]),
        tuple([hand for _, hand, _ in stands]))


def scan_state(cursor, sorts):
    """The next states of a line, behind its letter."""
    found = []
    for _ in range(sorts):
        cursor.take(" ")
        found.append(cursor.integer(2))
    return tuple(found)


def scan_picks(cursor, sorts, many):
    """The truths of a line, behind its letter."""
    found = []
    for _ in range(sorts):
        cursor.take(" ")
        found.append(tuple([cursor.take("+-") == "+" for _ in range(many)]))
    return tuple(found)


def scan_states(cursor, sorts, letter, following):
    """The lines of states that begin with a letter, of which the first one has been taken."""
    found = [scan_state(cursor, sorts)]
    cursor.new_line()
    while cursor.take(letter + following if len(found) < MOST_STATES else following) == letter:
        found.append(scan_state(cursor, sorts))
        cursor.new_line()
    return tuple(found)


def scan_sieve(cursor):
    """A sieve."""
    sorts = int(cursor.take(SORTS))
    cursor.new_line()
    cursor.take("L")
    left = scan_states(cursor, sorts, "L", "R")
    right = scan_states(cursor, sorts, "R", "P")
    pick = [scan_picks(cursor, sorts, len(right))]
    for _ in range(len(left) - 1):
        cursor.new_line()
        cursor.take("P")
        pick.append(scan_picks(cursor, sorts, len(right)))
    return (sorts, left, right, tuple(pick))


def scan_thing(cursor, deep):
    """A word, an integer or a tuple, which stands in so many brackets."""
    if cursor.sees(SMALL):
        return cursor.some(SMALL, MOST_LETTERS)
    if deep < MOST_BRACKETS and cursor.sees("("):
        return scan_tuple(cursor, deep)
    return int(cursor.take("0123456789" + SMALL + ("(" if deep < MOST_BRACKETS else "")))


def scan_tuple(cursor, deep):
    """A tuple, which stands in so many brackets."""
    cursor.take("(")
    found = []
    if not cursor.sees(")"):
        found.append(scan_thing(cursor, deep + 1))
        while cursor.sees(" "):
            cursor.take(" ")
            found.append(scan_thing(cursor, deep + 1))
    cursor.take(")")
    return tuple(found)


def scan_rule(cursor):
    """What a rule or a condition is by its form."""
    return scan_tuple(cursor, 0)
