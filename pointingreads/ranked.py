"""Readers of rankings, and the rankings of readers."""

from pointingreads.folding import folded
from pointingreads.signs import word_point


def rank_numbers(ranking):
    """For each mark of a ranking the number of its rank."""
    return {mark: number for number, (_, marks) in enumerate(ranking) for mark in marks}


def ranking_reader(ranking, sorts):
    """The least reader that points at the best entry."""
    numbers = rank_numbers(ranking)
    # stand 0 is that of no best entry, stand K + 1 that of one of rank K
    steps = []
    for stand in range(len(ranking) + 1):
        row = []
        for mark in range(sorts):
            best = stand - 1 if stand > 0 else len(ranking)
            number = numbers.get(mark, len(ranking))
            taken = number < best or (number == best < len(ranking) and ranking[number][0] == "last")
            if taken:
                row.append((number + 1, (-1,)))
            else:
                row.append((stand, (0,) if stand > 0 else ()))
        steps.append(tuple(row))
    many = len(ranking)
    return folded((sorts, (0,) + (1,) * many, tuple(steps), (-1,) + (0,) * many))


def is_better(reader, mark, other):
    """Whether a mark is the best one of two, in either order."""
    return word_point(reader, (mark, other)) == 0 and word_point(reader, (other, mark)) == 1


def ranking_told(reader):
    """The ranking whose best entry is the point of every row, None if there is none."""
    least = folded(reader)
    marks = [mark for mark in range(least[0]) if least[3][least[2][0][mark][0]] >= 0]
    ranks = {}
    for mark in marks:
        better = len([other for other in marks if is_better(least, other, mark)])
        ranks.setdefault(better, []).append(mark)
    found = tuple([
        ("first" if word_point(least, (ranks[better][0],) * 2) == 0 else "last", tuple(ranks[better]))
        for better in sorted(ranks)
    ])
    # short rows tell which ranking it could be, the least reader whether it is
    return found if ranking_reader(found, least[0]) == least else None
