"""Lookers, and the readers that point as they do."""

from pointingreads.climbs import two_picks_word
from pointingreads.errors import NotLooker
from pointingreads.folding import folded
from pointingreads.growing import reader_grown
from pointingreads.handbits import all_bits, pointed_bits, sieve_of_hands
from pointingreads.pickers import FirstPicks, LastPicks
from pointingreads.readers import need_reader
from pointingreads.sieves import need_sieve
from pointingreads.sifting import least_of


def is_looker(sieve):
    """Whether the sieve is a looker."""
    need_sieve(sieve)
    return two_picks_word(least_of(sieve)) is None


def need_looker(sieve):
    """The sieve, if it is a looker."""
    need_sieve(sieve)
    word = two_picks_word(least_of(sieve))
    if word is not None:
        raise NotLooker(word)
    return sieve


def reader_of(sieve):
    """The reader of the looker."""
    need_looker(sieve)
    return reader_grown(sieve[0], FirstPicks(least_of(sieve)))


def first_pick(sieve):
    """The least reader that points at the first pick."""
    need_sieve(sieve)
    return reader_grown(sieve[0], FirstPicks(least_of(sieve)))


def last_pick(sieve):
    """The least reader that points at the last pick."""
    need_sieve(sieve)
    return reader_grown(sieve[0], LastPicks(least_of(sieve)))


def looker_of(reader):
    """The looker of the reader."""
    need_reader(reader)
    least = folded(reader)
    return sieve_of_hands(least, pointed_bits(least), 0, all_bits(least))
