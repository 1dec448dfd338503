"""Sieves put together."""

from pointingreads.checks import is_tuple, is_whole
from pointingreads.errors import BadMark
from pointingreads.leastsieves import need_same_sorts
from pointingreads.named import need_sorts
from pointingreads.sieves import need_sieve
from pointingreads.sifting import MOST_STATES, least_of, pair_masks, pairs_met, sieve_told


def put_together(sieve, other, mixed):
    """The least sieve of two; mixed tells the mask of both from those of each."""
    need_same_sorts(sieve, other)
    one = least_of(sieve)
    two = least_of(other)
    left_pairs, lefts = pairs_met(one[1], two[1])
    right_pairs, rights = pairs_met(one[2], two[2])
    masks = [
        [mixed(mask, other_mask) for mask, other_mask in row]
        for row in pair_masks(one, two, left_pairs, right_pairs)
    ]
    return sieve_told(sieve[0], lefts, rights, masks, MOST_STATES)


def both(sieve, other):
    """The least sieve of what both pick."""
    return put_together(sieve, other, lambda mask, other_mask: mask & other_mask)


def either(sieve, other):
    """The least sieve of what one or both pick."""
    return put_together(sieve, other, lambda mask, other_mask: mask | other_mask)


def but(sieve, other):
    """The least sieve of what the first one picks and the other one does not."""
    return put_together(sieve, other, lambda mask, other_mask: mask ^ (mask & other_mask))


def just_one(sieve, other):
    """The least sieve of what just one of both picks."""
    return put_together(sieve, other, lambda mask, other_mask: mask ^ other_mask)


def opposite(sieve):
    """The least sieve of what the sieve does not pick."""
    need_sieve(sieve)
    sorts, left, right, pick = sieve
    turned = tuple([tuple([tuple([not truth for truth in truths]) for truths in row]) for row in pick])
    return least_of((sorts, left, right, turned))


def backwards(sieve):
    """The least sieve of what the sieve picks in the row read from the end."""
    need_sieve(sieve)
    sorts, left, right, pick = sieve
    turned = tuple([
        tuple([tuple([row[mark][state] for row in pick]) for mark in range(sorts)])
        for state in range(len(right))
    ])
    return least_of((sorts, right, left, turned))


def sieve_of_marks(sorts, marks):
    """The least sieve that picks the entries with these marks."""
    need_sorts(sorts)
    if not is_tuple(marks, 0, 4):
        raise BadMark(marks)
    for mark in marks:
        if not is_whole(mark, 0, sorts - 1):
            raise BadMark(mark)
    only = ((0,) * sorts,)
    return (sorts, only, only, (tuple([(mark in marks,) for mark in range(sorts)]),))
