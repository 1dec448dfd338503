"""What becomes of the entries in the hands of a reader, as sieves tell it.

All hands of all stands are numbered; a set of them is an integer with a bit for each of them.
"""

from pointingreads.folding import hand_nodes
from pointingreads.searching import explored
from pointingreads.sifting import MOST_STATES, sieve_told


def bits_behind(reader):
    """For each mark, for each hand of each stand the bit of the hand that has its entry behind."""
    sorts, held, steps, _ = reader
    first = hand_nodes(held)
    found = [[0] * sum(held) for _ in range(sorts)]
    for stand, row in enumerate(steps):
        for mark, (behind, keep) in enumerate(row):
            for hand, old in enumerate(keep):
                if old >= 0:
                    found[mark][first[stand] + old] = 1 << (first[behind] + hand)
    return found


def pointed_bits(reader):
    """The bits of the hands that are pointed at."""
    first = hand_nodes(reader[1])
    return sum([1 << (first[stand] + hand) for stand, hand in enumerate(reader[3]) if hand >= 0])


def bits_ahead(behind, bits):
    """The bits of the hands whose entries have one of the bits behind a mark."""
    return sum([1 << node for node, bit in enumerate(behind) if bit & bits > 0])


def new_hand_bits(reader):
    """For each stand and each mark the bit of the hand that takes the new entry, or 0."""
    first = hand_nodes(reader[1])
    return [
        [1 << (first[behind] + keep.index(-1)) if -1 in keep else 0 for behind, keep in row]
        for row in reader[2]
    ]


def all_bits(reader):
    """The bits of all hands."""
    return (1 << sum(reader[1])) - 1


def unpointed_bits(reader):
    """The bits of the hands with entries that may not have been pointed at up to there."""
    pointed = pointed_bits(reader)
    behind = bits_behind(reader)
    found = 0
    todo = [bit for row in new_hand_bits(reader) for bit in row if bit > 0]
    while todo:
        bit = todo.pop()
        if bit & found == 0:
            found = found | bit
            if bit & pointed == 0:
                todo.extend([row[bit.bit_length() - 1] for row in behind if row[bit.bit_length() - 1] > 0])
    return found


def sieve_of_hands(least, good, always, told):
    """The least sieve that picks an entry by the hand of a least reader that takes it.

    What is behind is told by the hands that are good ahead of it: those with the bits good of
    an empty rest, those with the bits always of any rest. Only hands with the bits told matter,
    each of them for some entry; so unlike bits are unlike right states. TooGreat(64).
    """
    behind = bits_behind(least)
    ends, rights = explored(
        (good | always) & told,
        lambda bits: [(bits_ahead(row, bits) | always) & told for row in behind],
        MOST_STATES)
    lefts = [[step[0] for step in row] for row in least[2]]
    masks = [
        [sum([1 << right for right, bits in enumerate(ends) if bit & bits > 0]) for bit in row]
        for row in new_hand_bits(least)
    ]
    return sieve_told(least[0], lefts, rights, masks, MOST_STATES)
