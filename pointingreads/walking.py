"""How readers go along blocks, whatever has been asked of both before."""

from pointingreads.orbits import orbit_at


def walked(steps, stand, places, marks, place):
    """The stand and the places in its hands behind some marks, the first one at the place."""
    for mark in marks:
        stand, keep = steps[stand][mark]
        places = tuple([place if hand < 0 else places[hand] for hand in keep])
        place += 1
    return stand, places


def walked_often(steps, stand, places, block, place):
    """The same behind a block that is done few times."""
    marks, times = block
    for _ in range(times):
        stand, places = walked(steps, stand, places, marks, place)
        place += len(marks)
    return stand, places


def held_at_last(held, hand, rounds):
    """What a hand holds behind some rounds: a pair (round, thing).

    The thing is what the hand has from that round, or from round 0 an old hand. As no two
    hands take the same one, a way that comes to no new entry comes back to where it began.
    """
    first = hand
    left = rounds
    while left > 0 and held[hand] < 0:
        hand = -1 - held[hand]
        left -= 1
        if hand == first:
            left = left % (rounds - left)
    if left == 0:
        return (0, hand)
    return (left, held[hand])


def rounds_walked(steps, stand, places, block, rounds, place):
    """The places in the hands behind rounds of a block, each of which leads back to the stand."""
    old = tuple([-1 - hand for hand in range(len(places))])
    _, held = walked_often(steps, stand, old, block, 0)
    size = len(block[0]) * block[1]
    found = []
    for hand in range(len(places)):
        last, thing = held_at_last(held, hand, rounds)
        found.append(places[thing] if last == 0 else place + (last - 1) * size + thing)
    return tuple(found)


def block_walked(steps, stand, places, block, place):
    """The stand and the places in its hands behind a block that may be done very often."""
    marks, times = block
    seen = {}
    left = times
    while left > 0 and stand not in seen:
        seen[stand] = left
        stand, places = walked(steps, stand, places, marks, place)
        place += len(marks)
        left -= 1
    if left == 0:
        return stand, places
    once = seen[stand] - left
    rounds, rest = divmod(left, once)
    places = rounds_walked(steps, stand, places, (marks, once), rounds, place)
    place += rounds * once * len(marks)
    return walked_often(steps, stand, places, (marks, rest), place)


def row_walked(steps, stand, places, blocks, place):
    """The stand and the places in its hands behind some blocks."""
    for block in blocks:
        stand, places = block_walked(steps, stand, places, block, place)
        place += len(block[0]) * block[1]
    return stand, places


def hand_kept(steps, stand, hand, marks):
    """Where the entry of a hand is behind some marks: (stand, hand, entries), hand None if it is let go.

    The entries are those behind which a hand still holds it.
    """
    entries = 0
    for mark in marks:
        stand, keep = steps[stand][mark]
        if hand not in keep:
            return stand, None, entries
        hand = keep.index(hand)
        entries += 1
    return stand, hand, entries


def hand_kept_often(steps, stand, hand, block):
    """The same for a block that may be done very often."""
    marks, times = block
    order = []
    numbers = {}
    while (stand, hand) not in numbers:
        if len(order) == times:
            return stand, hand, times * len(marks)
        numbers[(stand, hand)] = len(order)
        order.append((stand, hand))
        stand, hand, entries = hand_kept(steps, stand, hand, marks)
        if hand is None:
            return stand, None, (len(order) - 1) * len(marks) + entries
    # the same hand of the same stand again: it is kept as long as the block goes on
    stand, hand = orbit_at(order, numbers[(stand, hand)], times)
    return stand, hand, times * len(marks)


def entries_kept(steps, stand, hand, blocks):
    """Behind how many entries of some blocks the entry of a hand is still held."""
    kept = 0
    for block in blocks:
        stand, hand, entries = hand_kept_often(steps, stand, hand, block)
        kept += entries
        if hand is None:
            return kept
    return kept
