"""Records of readers, and candidates, as sieves."""

from pointingreads.folding import folded
from pointingreads.handbits import all_bits, pointed_bits, sieve_of_hands, unpointed_bits
from pointingreads.readers import need_reader


def records_of(reader):
    """The least sieve that picks the records."""
    need_reader(reader)
    least = folded(reader)
    # where an entry has been pointed at for sure, it doesn't matter what becomes of it
    return sieve_of_hands(least, 0, pointed_bits(least), unpointed_bits(least))


def candidates_of(reader):
    """The least sieve that picks the candidates."""
    need_reader(reader)
    least = folded(reader)
    # the hands of a least reader hold just the candidates
    return sieve_of_hands(least, all_bits(least), 0, all_bits(least))
