"""Rankings of marks, and the best entries of rows."""

from math import comb

from pointingreads.blocks import entry_count, from_the_end
from pointingreads.checks import are_whole, is_tuple, is_whole
from pointingreads.errors import BadNumber, BadRule, BadSorts
from pointingreads.ranked import ranking_reader
from pointingreads.rows import need_row

MOST_MARKS = 200
ENDS = ("first", "last")


def is_rank(value):
    """Whether any value is a rank."""
    if not (is_tuple(value, 2, 2) and type(value[0]) == str and value[0] in ENDS):
        return False
    marks = value[1]
    return is_tuple(marks, 1, 4) and are_whole(marks, 0, 3) and sorted(set(marks)) == list(marks)


def is_ranking(value):
    """Whether any value is a ranking."""
    if not (is_tuple(value, 0, 4) and all([is_rank(rank) for rank in value])):
        return False
    marks = [mark for _, told in value for mark in told]
    return len(set(marks)) == len(marks)


def check_ranking(ranking):
    """Refuses what is no ranking."""
    if not is_ranking(ranking):
        raise BadRule("ranking")


def check_sorts(sorts):
    """Refuses what is no number of sorts."""
    if not is_whole(sorts, 1, 4):
        raise BadSorts(sorts)


def need_ranking(ranking, sorts):
    """The ranking, if it has marks below sorts alone."""
    check_ranking(ranking)
    check_sorts(sorts)
    if any([mark >= sorts for _, marks in ranking for mark in marks]):
        raise BadRule("mark")
    return ranking


def first_place(blocks, wanted):
    """The least place of an entry with one of some marks, None if there is none."""
    ahead = 0
    for marks, times in blocks:
        for place, mark in enumerate(marks):
            if mark in wanted:
                return ahead + place
        ahead += len(marks) * times
    return None


def ranking_point(ranking, row):
    """The place of the best entry of the row, or None."""
    check_ranking(ranking)
    need_row(row)
    for end, wanted in ranking:
        place = first_place(row if end == "first" else from_the_end(row), wanted)
        if place is not None:
            return place if end == "first" else entry_count(row) - 1 - place
    return None


def reader_of_ranking(ranking, sorts):
    """The least reader that points at the best entry of every row."""
    need_ranking(ranking, sorts)
    return ranking_reader(ranking, sorts)


def rankings_among(marks):
    """All rankings that have some of the marks, no other ones."""
    found = [()]
    for number in range(1, 1 << len(marks)):
        chosen = tuple([mark for place, mark in enumerate(marks) if number >> place & 1 == 1])
        rest = rankings_among([mark for mark in marks if mark not in chosen])
        for end in ENDS:
            found.extend([((end, chosen),) + told for told in rest])
    return found


def all_rankings(sorts):
    """All rankings of marks below sorts, ascending."""
    check_sorts(sorts)
    return tuple(sorted(rankings_among(list(range(sorts)))))


def ranking_number(number):
    """How many rankings of so many marks there are."""
    if not is_whole(number, 0, MOST_MARKS):
        raise BadNumber(number)
    # those in which each of many marks stands begin with some of them, as a first or a last rank
    full = [1]
    for many in range(1, number + 1):
        full.append(sum([2 * comb(many, begin) * full[many - begin] for begin in range(1, many + 1)]))
    return sum([comb(number, many) * full[many] for many in range(number + 1)])


def ranking_else(ranking, other_ranking):
    """The ranks of the one, then those of the other without the marks that the one has."""
    check_ranking(ranking)
    check_ranking(other_ranking)
    known = [mark for _, marks in ranking for mark in marks]
    rest = [
        (end, tuple([mark for mark in marks if mark not in known])) for end, marks in other_ranking
    ]
    return ranking + tuple([rank for rank in rest if rank[1] != ()])
