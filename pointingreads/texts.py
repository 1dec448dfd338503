"""The texts of things."""

from pointingreads.readers import need_reader
from pointingreads.rows import need_row
from pointingreads.rules import need_condition, need_rule
from pointingreads.sieves import need_sieve


def block_text(block):
    """The item of a block."""
    marks, times = block
    digits = "".join([str(mark) for mark in marks])
    return digits if times == 1 else digits + "*" + str(times)


def row_text(row):
    """The text of a row."""
    need_row(row)
    return " ".join([block_text(block) for block in row]) if row else "-"


def step_text(step):
    """The item of a step."""
    stand, keep = step
    hands = "".join(["+" if hand < 0 else str(hand) for hand in keep])
    return str(stand) + ":" + (hands if keep else "-")


def stand_text(held, hand, row):
    """The line of a stand."""
    told = [str(held), "-" if hand < 0 else str(hand)]
    return " ".join(told + [step_text(step) for step in row])


def reader_text(reader):
    """The text of a reader."""
    need_reader(reader)
    sorts, held, steps, points = reader
    return "\n".join([str(sorts)] + [
        stand_text(many, hand, row) for many, hand, row in zip(held, points, steps)
    ])


def state_text(letter, row):
    """The line of a left or right state."""
    return " ".join([letter] + [str(state) for state in row])


def picks_text(row):
    """The line of what is picked at a left state."""
    return " ".join(["P"] + ["".join(["+" if truth else "-" for truth in truths]) for truths in row])


def sieve_text(sieve):
    """The text of a sieve."""
    need_sieve(sieve)
    sorts, left, right, pick = sieve
    lines = [str(sorts)]
    lines.extend([state_text("L", row) for row in left])
    lines.extend([state_text("R", row) for row in right])
    lines.extend([picks_text(row) for row in pick])
    return "\n".join(lines)


def thing_text(value):
    """The text of a word, an integer, or a tuple of such things."""
    if type(value) == tuple:
        return "(" + " ".join([thing_text(told) for told in value]) + ")"
    return str(value)


def rule_text(rule):
    """The text of a rule."""
    need_rule(rule)
    return thing_text(rule)


def condition_text(condition):
    """The text of a condition."""
    need_condition(condition)
    return thing_text(condition)
