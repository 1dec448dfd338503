"""How a word makes a reader point, seen from ahead of the word."""


def word_sign(reader, stand, word):
    """What is pointed at behind a word that is read from a stand.

    None; or a number of the word's entries; or -1 less the hand of the stand that holds it.
    """
    keeps = []
    for mark in word:
        stand, keep = reader[2][stand][mark]
        keeps.append(keep)
    hand = reader[3][stand]
    if hand < 0:
        return None
    for place in range(len(word) - 1, -1, -1):
        hand = keeps[place][hand]
        if hand < 0:
            return place
    return -1 - hand


def is_old(sign):
    """Whether a sign tells an entry from ahead of the word."""
    return sign is not None and sign < 0


def are_unlike_signs(sign, other):
    """Whether two signs from unlike stands are unlike whatever these hold."""
    return not (is_old(sign) and is_old(other)) and sign != other


def word_point(reader, word):
    """The point of a word."""
    # stand 0 has no hands, so what is pointed at is an entry of the word
    return word_sign(reader, 0, word)
