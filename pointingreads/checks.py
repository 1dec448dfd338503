"""What kind a value is; each answer is right for any value whatever."""

MOST_TIMES = 10 ** 30


def is_whole(value, low, high):
    """Whether a value is an integer from low to high; True and False are none."""
    return type(value) == int and low <= value <= high


def is_from(value, low):
    """Whether a value is an integer from low on."""
    return type(value) == int and low <= value


def is_tuple(value, least, most):
    """Whether a value is a tuple of at least so many and at most so many things."""
    return type(value) == tuple and least <= len(value) <= most


def are_whole(values, low, high):
    """Whether all of some values are integers from low to high."""
    return all([type(value) == int and low <= value <= high for value in values])


def is_block(value):
    """Whether a value is a block of a row."""
    if not is_tuple(value, 2, 2):
        return False
    marks, times = value
    return is_tuple(marks, 1, 60) and are_whole(marks, 0, 3) and is_whole(times, 1, MOST_TIMES)


def are_unlike(values):
    """Whether no integer stands twice among some integers."""
    return len(set(values)) == len(values)
