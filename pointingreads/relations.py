"""How the points of two readers stand to one another."""

from pointingreads.checks import is_tuple
from pointingreads.errors import BadName
from pointingreads.reading import row_point
from pointingreads.readers import need_fit
from pointingreads.twofold import need_two, relation_words, word_against

RELATIONS = ("none", "first", "second", "same", "ahead", "behind")


def is_relation(value):
    """Whether any value is a relation."""
    return type(value) == str and value in RELATIONS


def need_relations(words):
    """Refuses what is no tuple of at most six relations."""
    if not is_tuple(words, 0, 6):
        raise BadName(None)
    for word in words:
        if not is_relation(word):
            raise BadName(word)


def relation_of(place, other_place):
    """The relation of two points."""
    if place is None or other_place is None:
        if place is not None:
            return "first"
        return "none" if other_place is None else "second"
    if place == other_place:
        return "same"
    return "ahead" if place < other_place else "behind"


def relation_in(reader, other, row):
    """The relation of the points of a row."""
    need_two(reader, other)
    need_fit(reader, row)
    return relation_of(row_point(reader, row), row_point(other, row))


def relations(reader, other):
    """The relations that come, in their order."""
    need_two(reader, other)
    found = relation_words(reader, other, RELATIONS)
    return tuple([word for word in RELATIONS if word in found])


def relation_row(reader, other, word):
    """The least row with the relation, or None."""
    need_two(reader, other)
    if not is_relation(word):
        raise BadName(word)
    return relation_words(reader, other, (word,)).get(word)


def is_always(reader, other, words):
    """Whether each row has one of the relations."""
    need_two(reader, other)
    need_relations(words)
    return word_against(reader, other, words) is None


def row_against(reader, other, words):
    """The least row with another relation, or None."""
    need_two(reader, other)
    need_relations(words)
    return word_against(reader, other, words)
