"""The rules of sieves."""

from pointingreads.checks import are_whole, is_tuple, is_whole
from pointingreads.errors import BadSieve
from pointingreads.readers import need_marks_below
from pointingreads.rows import need_row

MOST_STATES = 64


def are_tuples(values, many):
    """Whether all of some values are tuples of so many things."""
    return all([is_tuple(value, many, many) for value in values])


def has_form(value):
    """Whether a value has the outer form of a sieve."""
    if not is_tuple(value, 4, 4):
        return False
    sorts, left, right, pick = value
    if not is_whole(sorts, 1, 4):
        return False
    if not (is_tuple(left, 1, MOST_STATES) and are_tuples(left, sorts)):
        return False
    if not (is_tuple(right, 1, MOST_STATES) and are_tuples(right, sorts)):
        return False
    if not (is_tuple(pick, len(left), len(left)) and are_tuples(pick, sorts)):
        return False
    return all([are_tuples(row, len(right)) for row in pick])


def are_states(table):
    """Whether a table leads to its own states alone."""
    return all([are_whole(row, 0, len(table) - 1) for row in table])


def are_truths(values):
    """Whether all of some values are True or False."""
    return all([type(value) == bool for value in values])


def sieve_fault(value):
    """None for a sieve, otherwise the word of the first rule that fails."""
    if not has_form(value):
        return "form"
    _, left, right, pick = value
    if not are_states(left):
        return "left"
    if not are_states(right):
        return "right"
    if not all([are_truths(truths) for row in pick for truths in row]):
        return "pick"
    return None


def is_sieve(value):
    """Whether any value is a sieve."""
    return sieve_fault(value) is None


def need_sieve(sieve):
    """The sieve, if it is one."""
    fault = sieve_fault(sieve)
    if fault is not None:
        raise BadSieve(fault)
    return sieve


def need_row_for(sieve, row):
    """The row, if it is one with marks that the sieve knows."""
    need_sieve(sieve)
    need_row(row)
    need_marks_below(row, sieve[0])
    return row
