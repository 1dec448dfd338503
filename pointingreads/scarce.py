"""Least rows with so many candidates."""

from pointingreads.checks import is_whole
from pointingreads.errors import BadNumber
from pointingreads.folding import folded
from pointingreads.readers import need_reader
from pointingreads.searching import least_words

MOST_HANDS = 8


def least_scarce(reader, number):
    """The least row with exactly so many candidates, or None."""
    need_reader(reader)
    if not is_whole(number, 0, MOST_HANDS):
        raise BadNumber(number)
    _, held, steps, _ = folded(reader)
    found = least_words(
        [0],
        lambda stand: [[step[0]] for step in steps[stand]],
        lambda one: held[one],
        [number])
    return found.get(number)
