"""Measures of blocks, whatever has been asked of the sieve and the blocks before."""


def empty_measure(sieve):
    """The measure of the empty row."""
    lefts = tuple(range(len(sieve[1])))
    rights = tuple(range(len(sieve[2])))
    return (lefts, rights, ((0,) * len(rights),) * len(lefts))


def mark_measure(sieve, mark):
    """The measure of one entry."""
    _, left, right, pick = sieve
    return (
        tuple([row[mark] for row in left]),
        tuple([row[mark] for row in right]),
        tuple([tuple([1 if truth else 0 for truth in row[mark]]) for row in pick]),
    )


def joined(first, second):
    """The measure of two rows one behind the other."""
    lefts, rights, counts = first
    other_lefts, other_rights, other_counts = second
    told = []
    for row, behind in zip(counts, lefts):
        moved = [row[right] for right in other_rights]
        told.append(tuple([one + two for one, two in zip(moved, other_counts[behind])]))
    return (
        tuple([other_lefts[left] for left in lefts]),
        tuple([rights[right] for right in other_rights]),
        tuple(told),
    )


def measure_often(sieve, once, times):
    """The measure of a row that is done again and again."""
    found = empty_measure(sieve)
    for bit in range(times.bit_length() - 1, -1, -1):
        found = joined(found, found)
        if (times >> bit) & 1 == 1:
            found = joined(found, once)
    return found


def measure_of(sieve, blocks):
    """The measure of some blocks."""
    marks_told = [mark_measure(sieve, mark) for mark in range(sieve[0])]
    found = empty_measure(sieve)
    for marks, times in blocks:
        once = empty_measure(sieve)
        for mark in marks:
            once = joined(once, marks_told[mark])
        found = joined(found, measure_often(sieve, once, times))
    return found
