"""Words written as rows with few blocks."""

MOST_MARKS = 60


def repeated(word, at, period):
    """How many marks from a place on are whole repetitions of so many marks."""
    end = at + period
    while end < len(word) and word[end] == word[end - period]:
        end += 1
    return (end - at) // period * period


def packed(word):
    """Blocks that read as the word; each but the last one has 60 entries or more."""
    found = []
    at = 0
    while at < len(word):
        rest = min(MOST_MARKS, len(word) - at)
        best = 0
        period = rest
        for number in range(1, rest + 1):
            many = repeated(word, at, number)
            if many > best:
                best = many
                period = number
        found.append((word[at:at + period], best // period))
        at += best
    return tuple(found)


def packed_often(word, times):
    """Blocks that read as the word, done so often; None where none is found."""
    if times == 0:
        return ()
    for number in range(1, min(MOST_MARKS, len(word)) + 1):
        if len(word) % number == 0 and repeated(word, 0, number) == len(word):
            return ((word[:number], len(word) // number * times),)
    return packed(word) if times == 1 else None
