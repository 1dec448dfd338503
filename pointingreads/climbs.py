"""How many entries a sieve can pick in one row."""

from pointingreads.borders import circles, entry_arrows, first_borders, last_borders
from pointingreads.routes import least_routes, least_start, route
from pointingreads.sieves import need_sieve
from pointingreads.sifting import least_of


def climbing_entry(arrows, numbers):
    """A picked entry (border, mark, border) from which a way leads back to it, or None."""
    for at, row in enumerate(arrows):
        for mark, behind, truth in row:
            if truth and numbers[at] == numbers[behind]:
                return (at, mark, behind)
    return None


def greatest_picks(arrows, numbers):
    """For each circle the most picks behind it, if there is no pick within a circle."""
    most = [0] * (max(numbers) + 1)
    order = sorted([(-number, at) for at, number in enumerate(numbers)])
    for _, at in order:
        number = numbers[at]
        for _, behind, truth in arrows[at]:
            if numbers[behind] != number:
                more = most[numbers[behind]] + (1 if truth else 0)
                most[number] = max(most[number], more)
    return most


def most_picks(sieve):
    """The greatest number of picks of a row, or None."""
    need_sieve(sieve)
    least = least_of(sieve)
    arrows = entry_arrows(least)
    numbers = circles(arrows)
    if climbing_entry(arrows, numbers) is not None:
        return None
    most = greatest_picks(arrows, numbers)
    return max([most[numbers[at]] for at in first_borders(least)])


def rise(sieve):
    """A rise, or None."""
    need_sieve(sieve)
    least = least_of(sieve)
    arrows = entry_arrows(least)
    found = climbing_entry(arrows, circles(arrows))
    if found is None:
        return None
    at, mark, behind = found
    pairs = [[(other, to) for other, to, _ in row] for row in arrows]
    back, ranks = least_routes(pairs, [at])
    on, _ = least_routes(pairs, last_borders(least))
    start = least_start(first_borders(least), ranks)
    return (route(back, start), (mark,) + route(back, behind), route(on, at))


def two_picks_word(least):
    """The least row with two picks or more of a least sieve, as a word, or None."""
    # node 3 * border + picks, with 2 for all greater numbers of picks
    arrows = []
    for row in entry_arrows(least):
        for picks in range(3):
            arrows.append([
                (mark, 3 * behind + min(2, picks + (1 if truth else 0))) for mark, behind, truth in row
            ])
    goals = [3 * at + 2 for at in last_borders(least)]
    begins, ranks = least_routes(arrows, goals)
    start = least_start([3 * at for at in first_borders(least)], ranks)
    return None if start is None else route(begins, start)


def two_picks(sieve):
    """The least row with two picks or more, as a word, or None."""
    need_sieve(sieve)
    return two_picks_word(least_of(sieve))
