"""Records of readers, and candidates, as sieves."""

from pointingreads.folding import folded
from pointingreads.handbits import pointed_bits, sieve_of_hands
from pointingreads.readers import need_reader


def records_of(reader):
    """The least sieve that picks the records."""
    need_reader(reader)
    least = folded(reader)
    return sieve_of_hands(least, 0, pointed_bits(least))


def candidates_of(reader):
    """The least sieve that picks the candidates."""
    need_reader(reader)
    least = folded(reader)
    # the hands of a least reader hold just the candidates
    return sieve_of_hands(least, (1 << sum(least[1])) - 1, 0)
