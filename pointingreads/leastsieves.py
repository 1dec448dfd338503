"""Least sieves, and where two sieves part."""

from pointingreads.borders import behind_arrows
from pointingreads.counting import picks_in
from pointingreads.errors import BadSorts
from pointingreads.routes import least_routes, route
from pointingreads.sieves import need_sieve
from pointingreads.sifting import least_of, pair_masks, pairs_met


def need_same_sorts(sieve, other):
    """Refuses what is no sieve, and two sieves with unlike sorts."""
    need_sieve(sieve)
    need_sieve(other)
    if sieve[0] != other[0]:
        raise BadSorts(other[0])


def least_sieve(sieve):
    """The least sieve."""
    need_sieve(sieve)
    return least_of(sieve)


def are_alike_sieves(sieve, other):
    """Whether both pick alike for all rows."""
    need_same_sorts(sieve, other)
    return least_of(sieve) == least_of(other)


def parted_at(masks):
    """For each mark the least bit in which both masks are unlike, None if there is none."""
    found = []
    for mask, other in masks:
        unlike = mask ^ other
        found.append(None if unlike == 0 else (unlike & -unlike).bit_length() - 1)
    return found


def parted_word(sieve, other):
    """The least row in which two sieves that do not pick alike part."""
    left_pairs, lefts = pairs_met(sieve[1], other[1])
    right_pairs, rights = pairs_met(sieve[2], other[2])
    arrows = behind_arrows(rights)
    _, ranks = least_routes(arrows, [0])
    order = [right for _, right in sorted(zip(ranks, range(len(ranks))))]
    ranked = [right_pairs[right] for right in order]
    masks = pair_masks(sieve, other, left_pairs, ranked)
    # behind an entry that parts them only the right pair with the least word matters
    many = len(arrows)
    for left, row in enumerate(lefts):
        arrows.append([(mark, many + behind) for mark, behind in enumerate(row)])
        for mark, least in enumerate(parted_at(masks[left])):
            if least is not None:
                arrows[many + left].append((mark, order[least]))
    begins, _ = least_routes(arrows, [0])
    return route(begins, many)


def picks_parted(sieve, other):
    """None, or the least row in which the picks part, and the least place of such an entry."""
    need_same_sorts(sieve, other)
    least = least_of(sieve)
    other_least = least_of(other)
    if least == other_least:
        return None
    word = parted_word(least, other_least)
    places = picks_in(least, word, 0, 0)
    other_places = picks_in(other_least, word, 0, 0)
    parted = [place for place in range(len(word)) if (place in places) != (place in other_places)]
    return (word, parted[0])
