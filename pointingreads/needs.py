"""Papers that show how many hands and how many stands are needed."""

from itertools import combinations

from pointingreads.checks import is_tuple, is_whole
from pointingreads.errors import TooGreat
from pointingreads.folding import folded, pointers
from pointingreads.readers import need_reader
from pointingreads.rows import MOST_WORD
from pointingreads.signs import are_unlike_signs, is_old, word_sign
from pointingreads.twofold import stands_together

MOST_NEEDED = 40


def is_word(value, sorts):
    """Whether any value is a word with marks below sorts."""
    return is_tuple(value, 0, MOST_WORD) and all([is_whole(mark, 0, sorts - 1) for mark in value])


def stand_behind(reader, word):
    """The stand behind a word."""
    stand = 0
    for mark in word:
        stand = reader[2][stand][mark][0]
    return stand


def stand_words(reader):
    """The least words that lead to the stands of a reader all of which are met in their order."""
    words = [()]
    for stand, row in enumerate(reader[2]):
        for mark, (behind, _) in enumerate(row):
            if behind == len(words):
                words.append(words[stand] + (mark,))
    return words


def hands_paper(reader):
    """A paper on as many hands as are needed."""
    need_reader(reader)
    least = folded(reader)
    stand = least[1].index(max(least[1]))
    return (stand_words(least)[stand], pointers(least)[stand])


def is_hands_paper(reader, paper):
    """Whether any value is a paper on hands."""
    need_reader(reader)
    if not (is_tuple(paper, 2, 2) and is_word(paper[0], reader[0]) and type(paper[1]) == tuple):
        return False
    word, others = paper
    stand = stand_behind(reader, word)
    seen = []
    for other in others:
        if not is_word(other, reader[0]):
            return False
        sign = word_sign(reader, stand, other)
        if not is_old(sign) or sign in seen:
            return False
        seen.append(sign)
    return True


def reason_by_pointers(least, told, stand, other):
    """A reason for two stands whose hands have unlike pointers, None where there is none of this kind."""
    for one, two in ((stand, other), (other, stand)):
        for word in told[one]:
            sign = word_sign(least, two, word)
            if not is_old(sign):
                return ("one", word)
            twin = told[two][-1 - sign]
            # the pointer of the hand there may point elsewhere here
            if twin != word:
                if are_unlike_signs(word_sign(least, one, twin), word_sign(least, two, twin)):
                    return ("one", twin)
                return ("two", word, twin)
    return None


def words_tried(least, told, stand, other):
    """Words among which one is pointed at unlike from two stands with the same pointers."""
    order, moves = stands_together(least, least, (stand, other))
    begins = [()] * len(order)
    reached = 1
    found = [()]
    for number, row in enumerate(moves):
        for mark, behind in enumerate(row):
            word = begins[number] + (mark,)
            if behind == reached:
                begins[behind] = word
                reached += 1
            found.append(word)
            for at in order[behind]:
                found.extend([word + pointer for pointer in told[at]])
    return found


def reason_for(least, told, stand, other):
    """A reason why two stands of a least reader are unlike."""
    found = reason_by_pointers(least, told, stand, other)
    if found is not None:
        return found
    for word in words_tried(least, told, stand, other):
        sign = word_sign(least, stand, word)
        other_sign = word_sign(least, other, word)
        if are_unlike_signs(sign, other_sign):
            return ("one", word)
        if sign != other_sign:
            # both have the same pointers: the one of the first hand points at it from both stands
            return ("two", word, told[stand][-1 - sign])
    return None


def stands_paper(reader):
    """A paper on as many stands as are needed."""
    need_reader(reader)
    least = folded(reader)
    if len(least[1]) > MOST_NEEDED:
        raise TooGreat(MOST_NEEDED)
    told = pointers(least)
    reasons = [
        reason_for(least, told, stand, other)
        for stand, other in combinations(range(len(least[1])), 2)
    ]
    return (tuple(stand_words(least)), tuple(reasons))


def has_reason_form(value, sorts):
    """Whether any value has the form of a reason."""
    if not (is_tuple(value, 2, 3) and type(value[0]) == str):
        return False
    if value[0] != ("one" if len(value) == 2 else "two"):
        return False
    return all([is_word(word, sorts) for word in value[1:]])


def is_reason(reader, stand, other, reason):
    """Whether what has the form of a reason is right for two stands."""
    signs = [word_sign(reader, stand, word) for word in reason[1:]]
    other_signs = [word_sign(reader, other, word) for word in reason[1:]]
    if reason[0] == "one":
        return are_unlike_signs(signs[0], other_signs[0])
    if not all([is_old(sign) for sign in signs + other_signs]):
        return False
    return (signs[0] == signs[1]) != (other_signs[0] == other_signs[1])


def is_stands_paper(reader, paper):
    """Whether any value is a paper on stands."""
    need_reader(reader)
    if not is_tuple(paper, 2, 2):
        return False
    words, reasons = paper
    if not (is_tuple(words, 0, MOST_NEEDED) and all([is_word(word, reader[0]) for word in words])):
        return False
    many = len(words) * (len(words) - 1) // 2
    if not (is_tuple(reasons, many, many) and all([has_reason_form(value, reader[0]) for value in reasons])):
        return False
    stands = [stand_behind(reader, word) for word in words]
    for (stand, other), reason in zip(list(combinations(stands, 2)), reasons):
        if not is_reason(reader, stand, other, reason):
            return False
    return True
