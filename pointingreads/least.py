"""Least readers."""

from pointingreads.folding import folded, pointers
from pointingreads.readers import need_reader


def live_words(reader):
    """For each stand the pointers of its hands."""
    need_reader(reader)
    return pointers(reader)


def least_reader(reader):
    """The least reader."""
    need_reader(reader)
    return folded(reader)


def hands_needed(reader):
    """The greatest number of hands of the least reader."""
    need_reader(reader)
    return max(folded(reader)[1])


def stands_needed(reader):
    """How many stands the least reader has."""
    need_reader(reader)
    return len(folded(reader)[1])
