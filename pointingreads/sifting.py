"""Least sieves of tables of any size.

A table has for each state the numbers of the next ones. Masks have for each left state and
each mark an integer whose bit R tells whether the right state R lets the entry be picked.
"""

from pointingreads.classes import refined, told_order
from pointingreads.searching import explored

MOST_STATES = 64


def told_table(classes, moves):
    """The states of the classes in their order, and the table of the classes."""
    order, numbers = told_order(classes, moves)
    table = tuple([tuple([numbers[classes[behind]] for behind in moves[state]]) for state in order])
    return order, table


def sieve_told(sorts, lefts, rights, masks, most):
    """The least sieve; TooGreat(most) of more states, unless most is None.

    Each state of both tables has to be met from state 0.
    """
    classes = refined([tuple(row) for row in masks], lefts, most)
    left_order, left_table = told_table(classes, lefts)
    columns = [
        tuple([(masks[left][mark] >> right) & 1 for left in left_order for mark in range(sorts)])
        for right in range(len(rights))
    ]
    right_order, right_table = told_table(refined(columns, rights, most), rights)
    pick = tuple([
        tuple([tuple([(mask >> right) & 1 == 1 for right in right_order]) for mask in masks[left]])
        for left in left_order
    ])
    return (sorts, left_table, right_table, pick)


def met_in(table):
    """The states of a table that are met, and their table by their new numbers."""
    return explored(0, lambda state: table[state], None)


def mask_of(truths, spread):
    """The mask of all right states whose bits spread gives, for the truths that are so."""
    mask = 0
    for right, truth in enumerate(truths):
        if truth:
            mask = mask | spread[right]
    return mask


def sieve_masks(sieve, lefts, spread):
    """The masks of some left states; spread has for each right state its bits."""
    return [[mask_of(truths, spread) for truths in sieve[3][left]] for left in lefts]


def bits_of(order, many):
    """For each right state the bits at which it stands in an order."""
    spread = [0] * many
    for number, right in enumerate(order):
        spread[right] = spread[right] | (1 << number)
    return spread


def least_of(sieve):
    """The least sieve of a sieve."""
    left_order, lefts = met_in(sieve[1])
    right_order, rights = met_in(sieve[2])
    masks = sieve_masks(sieve, left_order, bits_of(right_order, len(sieve[2])))
    return sieve_told(sieve[0], lefts, rights, masks, None)


def pairs_met(table, other):
    """The pairs of states that stand behind some row, and their table."""
    return explored((0, 0), lambda pair: tuple(zip(table[pair[0]], other[pair[1]])), None)


def pair_masks(sieve, other, left_pairs, right_pairs):
    """For each pair of left states the masks over the right pairs of both sieves."""
    spread = bits_of([pair[0] for pair in right_pairs], len(sieve[2]))
    other_spread = bits_of([pair[1] for pair in right_pairs], len(other[2]))
    masks = sieve_masks(sieve, list(range(len(sieve[1]))), spread)
    other_masks = sieve_masks(other, list(range(len(other[1]))), other_spread)
    return [list(zip(masks[left], other_masks[other_left])) for left, other_left in left_pairs]
