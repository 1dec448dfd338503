"""Names."""

SMALL = "abcdefghijklmnopqrstuvwxyz"
MOST_LETTERS = 12


def is_name(value):
    """Whether any value is a name."""
    if not (type(value) == str and 1 <= len(value) <= MOST_LETTERS):
        return False
    return all([letter in SMALL for letter in value])
