"""Readers found configuration by configuration, each class of configurations once."""

from pointingreads.errors import TooGreat

MOST_STANDS = 200
MOST_HANDS = 8


def stands_grown(sorts, picks):
    """A configuration of each class, and the steps between the classes; TooGreat(200).

    picks.begin() tells the configuration of the empty row. picks.grown(one, mark) tells a
    pair: the configuration behind the mark, and what its hands keep. picks.mould(one) tells
    what alike configurations have in common, and picks.alike(one, other) whether two with
    one mould are alike.
    """
    known = [picks.begin()]
    moulds = {picks.mould(known[0]): [0]}
    steps = []
    while len(steps) < len(known):
        row = []
        for mark in range(sorts):
            one, keep = picks.grown(known[len(steps)], mark)
            row.append((stand_of(picks, known, moulds, one), keep))
        steps.append(tuple(row))
        if len(known) > MOST_STANDS:
            raise TooGreat(MOST_STANDS)
    return known, tuple(steps)


def reader_grown(sorts, picks):
    """The least reader of picks; TooGreat(200), then TooGreat(8).

    picks.hands(one) and picks.hand_pointed(one) tell what stands_grown does not ask.
    """
    known, steps = stands_grown(sorts, picks)
    held = tuple([picks.hands(one) for one in known])
    if max(held) > MOST_HANDS:
        raise TooGreat(MOST_HANDS)
    return (sorts, held, steps, tuple([picks.hand_pointed(one) for one in known]))


def stand_of(picks, known, moulds, one):
    """The stand of a configuration; it is a new one if no known configuration is alike."""
    stands = moulds.setdefault(picks.mould(one), [])
    for stand in stands:
        if picks.alike(known[stand], one):
            return stand
    known.append(one)
    stands.append(len(known) - 1)
    return len(known) - 1
