"""Unions of rests: numbers that leave, for one of several divisors, one of its rests.

Rests are told as pairs (DIVISOR, MASK), bit R of the MASK for the rest R.
"""

from math import gcd, lcm


def is_among(rests, number):
    """Whether the number leaves one of the rests."""
    return any([mask >> (number % divisor) & 1 == 1 for divisor, mask in rests])


def gathered(rests):
    """The same rests, without divisors that divide other ones."""
    divisors = [divisor for divisor, _ in rests]
    kept = [
        divisor for divisor in divisors
        if not any([other % divisor == 0 and other != divisor for other in divisors])
    ]
    masks = {divisor: 0 for divisor in kept}
    for divisor, mask in rests:
        home = min([other for other in kept if other % divisor == 0])
        for begin in range(0, home, divisor):
            masks[home] = masks[home] | (mask << begin)
    return [(divisor, masks[divisor]) for divisor in kept]


def joined_rest(divisor, rest, other, other_rest):
    """The rest modulo both divisors of what leaves both rests."""
    while rest % other != other_rest:
        rest += divisor
    return rest


def rests_left(divisor, rest, other, mask):
    """The rests modulo other, without those of the mask, of numbers that leave one rest."""
    step = gcd(divisor, other)
    return [left for left in range(rest % step, other, step) if mask >> left & 1 == 0]


def are_all_among(divisor, rest, rests):
    """Whether all numbers that leave one rest leave one of the rests."""
    if rests == []:
        return False
    # the divisor with the fewest rests left is looked at first; with none left nothing is
    ways = [rests_left(divisor, rest, other, mask) for other, mask in rests]
    many = [len(way) for way in ways]
    at = many.index(min(many))
    other = rests[at][0]
    others = rests[:at] + rests[at + 1:]
    for left in ways[at]:
        if not are_all_among(lcm(divisor, other), joined_rest(divisor, rest, other, left), others):
            return False
    return True


def is_period(rests, number):
    """Whether each number leaves one of the rests exactly if the one so much greater does."""
    if all([number % divisor == 0 for divisor, _ in rests]):
        return True
    for first in range(4 * number):
        if is_among(rests, first) != is_among(rests, first + number):
            return False
    # what is shifted into itself, going round and round, is shifted onto itself
    for divisor, mask in rests:
        for rest in range(divisor):
            if mask >> rest & 1 == 1 and not are_all_among(divisor, (rest + number) % divisor, rests):
                return False
    return True


def least_period(rests, most):
    """The least period of the numbers that leave one of the rests, None if it is above most."""
    told = gathered(rests)
    great = 1
    for divisor, _ in told:
        great = lcm(great, divisor)
    for number in range(1, most + 1):
        # the least period divides each other one
        if great % number == 0 and is_period(told, number):
            return number
    return None
