"""What several functions ask of a place of a row."""

from pointingreads.blocks import entry_count
from pointingreads.checks import is_whole
from pointingreads.errors import BadPlace


def need_entry(row, place):
    """Refuses what is no place of an entry."""
    if not is_whole(place, 0, entry_count(row) - 1):
        raise BadPlace(place)


def need_border(row, place):
    """Refuses what is no number from 0 to the length."""
    if not is_whole(place, 0, entry_count(row)):
        raise BadPlace(place)
