"""Blocks one behind the other: any number of them, and not looked at as arguments are."""


def entry_count(blocks):
    """How many entries the blocks have."""
    return sum([len(marks) * times for marks, times in blocks])


def all_marks(blocks):
    """All marks of the blocks; only for few entries."""
    found = []
    for marks, times in blocks:
        found.extend(marks * times)
    return tuple(found)


def entry_mark(blocks, place):
    """The mark at a place at which there is an entry."""
    for marks, times in blocks:
        size = len(marks) * times
        if place < size:
            return marks[place % len(marks)]
        place -= size
    return None


def block_part(marks, low, high):
    """The entries of a repeated block from low to high - 1, as at most three blocks."""
    many = len(marks)
    first, begin = divmod(low, many)
    last, end = divmod(high, many)
    if first == (high - 1) // many:
        return [(marks[begin:begin + high - low], 1)]
    found = []
    if begin > 0:
        found.append((marks[begin:], 1))
        first += 1
    if last > first:
        found.append((marks, last - first))
    if end > 0:
        found.append((marks[:end], 1))
    return found


def part_of(blocks, start, stop):
    """The blocks of the entries from start to stop - 1."""
    found = []
    ahead = 0
    for marks, times in blocks:
        size = len(marks) * times
        low = max(start - ahead, 0)
        high = min(stop - ahead, size)
        if low < high:
            found.extend(block_part(marks, low, high))
        ahead += size
    return tuple(found)


def marks_from(blocks, place, many):
    """The marks of so many entries from a place on, of fewer where the blocks end."""
    return all_marks(part_of(blocks, place, place + many))


def from_the_end(blocks):
    """The blocks read from the last entry to the first."""
    return tuple([(marks[::-1], times) for marks, times in blocks[::-1]])


def unlike_offset(marks, at, other, other_at, many):
    """The least offset below many at which two repeated blocks have unlike marks."""
    # alike over both lengths together means alike as far as both go on
    for offset in range(min(many, len(marks) + len(other))):
        if marks[(at + offset) % len(marks)] != other[(other_at + offset) % len(other)]:
            return offset
    return None


def first_parting(blocks, other):
    """The least place at which the two have unlike marks or one alone has an entry."""
    place = 0
    one = two = 0
    done = other_done = 0
    while one < len(blocks) and two < len(other):
        marks, times = blocks[one]
        other_marks, other_times = other[two]
        size = len(marks) * times
        other_size = len(other_marks) * other_times
        many = min(size - done, other_size - other_done)
        offset = unlike_offset(marks, done, other_marks, other_done, many)
        if offset is not None:
            return place + offset
        place += many
        done += many
        other_done += many
        if done == size:
            one += 1
            done = 0
        if other_done == other_size:
            two += 1
            other_done = 0
    if one == len(blocks) and two == len(other):
        return None
    return place


def have_period(blocks, number):
    """Whether every two entries that are so many apart have the same mark."""
    size = entry_count(blocks)
    if size <= number:
        return True
    ahead = part_of(blocks, 0, size - number)
    behind = part_of(blocks, number, size)
    return first_parting(ahead, behind) is None
