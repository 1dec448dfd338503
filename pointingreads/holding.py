"""What two readers hold of each other's entries."""

from pointingreads.folding import folded
from pointingreads.searching import least_words
from pointingreads.twofold import hand_steps, need_two, stands_together
from pointingreads.walking import walked

BEGIN = (0, 0, -1, -1)


def held_nexts(sorts, steps, other_steps, one):
    """For each mark what follows on (STAND, OTHER_STAND, HAND, OTHER_HAND).

    HAND has the entry in question, -1 ahead of it; OTHER_HAND is -1 if the other reader hasn't it.
    """
    stand, other_stand, hand, other_hand = one
    found = []
    for mark in range(sorts):
        behind, new, goes = steps[stand][mark]
        other_behind, other_new, other_goes = other_steps[other_stand][mark]
        told = []
        if hand < 0:
            told.append((behind, other_behind, -1, -1))
            if new >= 0:
                told.append((behind, other_behind, new, other_new))
        elif goes[hand] >= 0:
            kept = -1 if other_hand < 0 else other_goes[other_hand]
            told.append((behind, other_behind, goes[hand], kept))
        found.append(told)
    return found


def word_unheld(reader, other, is_asked):
    """The least row with an entry that is asked for and that the other reader doesn't hold.

    is_asked(stand, hand) tells whether the entry in a hand of the reader is asked for.
    """
    steps, other_steps = hand_steps(reader), hand_steps(other)
    found = least_words(
        [BEGIN],
        lambda one: held_nexts(reader[0], steps, other_steps, one),
        lambda one: one[2] >= 0 and one[3] < 0 and is_asked(one[0], one[2]),
        [True])
    return found.get(True)


def word_unkept(reader, other):
    """The least row behind which the reader's point isn't held, or None."""
    least = folded(reader)
    return word_unheld(least, other, lambda stand, hand: least[3][stand] == hand)


def word_uncovered(reader, other):
    """The least row with a candidate that is none for the other one, or None."""
    return word_unheld(folded(reader), folded(other), lambda stand, hand: True)


def is_kept(reader, other):
    """Whether the reader is kept by the other one."""
    need_two(reader, other)
    return word_unkept(reader, other) is None


def row_unkept(reader, other):
    """The least row behind which the reader's point isn't held, or None."""
    need_two(reader, other)
    return word_unkept(reader, other)


def is_covered(reader, other):
    """Whether the reader is covered by the other one."""
    need_two(reader, other)
    return word_uncovered(reader, other) is None


def row_uncovered(reader, other):
    """The least row with a candidate that is none for the other one, and its least place."""
    need_two(reader, other)
    word = word_uncovered(reader, other)
    if word is None:
        return None
    _, places = walked(folded(reader)[2], 0, (), word, 0)
    _, other_places = walked(folded(other)[2], 0, (), word, 0)
    return (word, min([place for place in places if place not in other_places]))


def unlike_behind(keep, other_keep, unlike, other_held):
    """The pairs of hands, as bits, that may hold unlike entries behind a step."""
    found = 0
    bit = 1
    for hand in keep:
        for other_hand in other_keep:
            if hand < 0 or other_hand < 0:
                if hand != other_hand:
                    found = found | bit
            elif unlike >> (hand * other_held + other_hand) & 1 == 1:
                found = found | bit
            bit = bit << 1
    return found


def unlike_hands(reader, other, order, moves):
    """For each pair of stands, by number, the pairs of hands that may hold unlike entries there."""
    unlike = [0] * len(order)
    # a pair is looked at again as soon as more of its hands may hold unlike entries
    todo = list(range(len(order)))[::-1]
    waiting = [True] * len(order)
    while todo:
        number = todo.pop()
        waiting[number] = False
        stand, other_stand = order[number]
        steps, other_steps = reader[2][stand], other[2][other_stand]
        for mark, behind in enumerate(moves[number]):
            more = unlike_behind(
                steps[mark][1], other_steps[mark][1], unlike[number], other[1][other_stand])
            if unlike[behind] | more != unlike[behind]:
                unlike[behind] = unlike[behind] | more
                if not waiting[behind]:
                    waiting[behind] = True
                    todo.append(behind)
    return unlike


def one_hands(reader, other):
    """For each pair of stands that come together the pairs of hands that are one."""
    need_two(reader, other)
    order, moves = stands_together(reader, other)
    unlike = unlike_hands(reader, other, order, moves)
    found = []
    for (stand, other_stand), bits in zip(order, unlike):
        held, other_held = reader[1][stand], other[1][other_stand]
        pairs = [
            (hand, other_hand) for hand in range(held) for other_hand in range(other_held)
            if bits >> (hand * other_held + other_hand) & 1 == 0
        ]
        found.append((stand, other_stand, tuple(pairs)))
    return tuple(sorted(found))
