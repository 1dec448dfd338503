"""Lookers, and the readers that point as they do."""

from pointingreads.climbs import two_picks_word
from pointingreads.errors import NotLooker
from pointingreads.folding import folded, hand_nodes
from pointingreads.growing import reader_grown
from pointingreads.pickers import FirstPicks, LastPicks
from pointingreads.readers import need_reader
from pointingreads.searching import explored
from pointingreads.sieves import need_sieve
from pointingreads.sifting import MOST_STATES, least_of, sieve_told


def is_looker(sieve):
    """Whether the sieve is a looker."""
    need_sieve(sieve)
    return two_picks_word(least_of(sieve)) is None


def need_looker(sieve):
    """The sieve, if it is a looker."""
    need_sieve(sieve)
    word = two_picks_word(least_of(sieve))
    if word is not None:
        raise NotLooker(word)
    return sieve


def reader_of(sieve):
    """The reader of the looker."""
    need_looker(sieve)
    return reader_grown(sieve[0], FirstPicks(least_of(sieve)))


def first_pick(sieve):
    """The least reader that points at the first pick."""
    need_sieve(sieve)
    return reader_grown(sieve[0], FirstPicks(least_of(sieve)))


def last_pick(sieve):
    """The least reader that points at the last pick."""
    need_sieve(sieve)
    return reader_grown(sieve[0], LastPicks(least_of(sieve)))


def bits_behind(reader):
    """For each mark, for each hand of each stand the bit of the hand that has its entry behind."""
    sorts, held, steps, _ = reader
    first = hand_nodes(held)
    found = [[0] * sum(held) for _ in range(sorts)]
    for stand, row in enumerate(steps):
        for mark, (behind, keep) in enumerate(row):
            for hand, old in enumerate(keep):
                if old >= 0:
                    found[mark][first[stand] + old] = 1 << (first[behind] + hand)
    return found


def pointed_bits(reader):
    """The bits of the hands that are pointed at."""
    first = hand_nodes(reader[1])
    return sum([1 << (first[stand] + hand) for stand, hand in enumerate(reader[3]) if hand >= 0])


def bits_ahead(behind, bits):
    """The bits of the hands whose entries have one of the bits behind a mark."""
    return sum([1 << node for node, bit in enumerate(behind) if bit & bits > 0])


def new_hand_bits(reader):
    """For each stand and each mark the bit of the hand that takes the new entry, or 0."""
    first = hand_nodes(reader[1])
    return [
        [1 << (first[behind] + keep.index(-1)) if -1 in keep else 0 for behind, keep in row]
        for row in reader[2]
    ]


def looker_of(reader):
    """The looker of the reader."""
    need_reader(reader)
    least = folded(reader)
    behind = bits_behind(least)
    # a row read from its end is told by the hands of all stands that are pointed at behind it
    ends, rights = explored(
        pointed_bits(least), lambda bits: [bits_ahead(row, bits) for row in behind], MOST_STATES)
    lefts = [[step[0] for step in row] for row in least[2]]
    masks = [
        [sum([1 << right for right, bits in enumerate(ends) if bit & bits > 0]) for bit in row]
        for row in new_hand_bits(least)
    ]
    return sieve_told(least[0], lefts, rights, masks, MOST_STATES)
