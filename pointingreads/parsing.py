"""Things told by texts."""

from pointingreads.cursors import scanned
from pointingreads.forms import scan_reader, scan_row, scan_rule, scan_sieve
from pointingreads.readers import need_reader
from pointingreads.rows import need_row
from pointingreads.rules import need_condition, need_rule
from pointingreads.sieves import need_sieve


def parse_row(text):
    """The row that the text tells."""
    return need_row(scanned(text, scan_row))


def parse_reader(text):
    """The reader that the text tells."""
    return need_reader(scanned(text, scan_reader))


def parse_sieve(text):
    """The sieve that the text tells."""
    return need_sieve(scanned(text, scan_sieve))


def parse_rule(text):
    """The rule that the text tells."""
    return need_rule(scanned(text, scan_rule))


def parse_condition(text):
    """The condition that the text tells."""
    return need_condition(scanned(text, scan_rule))
