"""The sieves that conditions mean, and the readers that rules mean."""

from pointingreads.combined import backwards, both, either, opposite, sieve_of_marks
from pointingreads.joints import Ahead, Behind, Decided
from pointingreads.rankings import check_sorts
from pointingreads.rules import need_condition, need_rule
from pointingreads.scans import Counted, Read
from pointingreads.traced import reader_traced, sieve_traced


def counts_of(condition):
    """What is counted ahead of an entry, by flags, and the good counts."""
    kind = condition[0]
    if kind == "next":
        return ((0, 1), (0, 1)), (1,)
    if kind == "some":
        most = condition[3]
        return tuple([(count, min(count + 1, most)) for count in range(most + 1)]), (most,)
    if kind == "rest":
        modulus = condition[3]
        return tuple([(count, (count + 1) % modulus) for count in range(modulus)]), (condition[4],)
    # the lesser bit of a flag tells of what is looked for, the other one of what stands between
    return ((0, 1, 0, 1), (0, 1, 1, 1)), (1,)


def sieve_ahead(condition, sieves):
    """The least sieve of a condition that looks ahead, of those of the conditions in it."""
    counts, good = counts_of(condition)
    return sieve_traced(Counted(sieves, counts, good))


def sieve_of_condition(condition, sorts):
    """The least sieve of a condition; TooGreat(64)."""
    kind = condition[0]
    if kind == "is":
        return sieve_of_marks(sorts, tuple([mark for mark in condition[1] if mark < sorts]))
    sieves = [sieve_of_condition(told, sorts) for told in condition[1:] if type(told) == tuple]
    if kind == "not":
        return opposite(sieves[0])
    if kind == "and":
        return both(sieves[0], sieves[1])
    if kind == "or":
        return either(sieves[0], sieves[1])
    if condition[1] == "ahead":
        return sieve_ahead(condition, sieves)
    return backwards(sieve_ahead(condition, [backwards(sieve) for sieve in sieves]))


def sieve_meant(condition, sorts):
    """The least sieve that picks the entries that are such as the condition says."""
    need_condition(condition)
    check_sorts(sorts)
    return sieve_of_condition(condition, sorts)


def front_reader(number):
    """The reader of the entry with the mark 1 and a number, from the front; the marks are 0 and 1."""
    steps = [((stand, ()), (stand + 1, ())) for stand in range(number - 1)]
    steps.append(((number - 1, ()), (number, (-1,))))
    steps.append(((number, (0,)), (number, (0,))))
    return (2, (0,) * number + (1,), tuple(steps), (-1,) * number + (0,))


def end_reader(number):
    """The reader of the entry with the mark 1 and a number, from the end; the marks are 0 and 1."""
    steps = []
    for stand in range(number + 1):
        behind = min(stand + 1, number)
        steps.append(((stand, tuple(range(stand))), (behind, tuple(range(-1, behind - 1)))))
    return (2, tuple(range(number + 1)), tuple(steps), (-1,) * number + (number - 1,))


def only_reader():
    """The reader of the one entry with the mark 1; the marks are 0 and 1."""
    steps = (((0, ()), (1, (-1,))), ((1, (0,)), (2, ())), ((2, ()), (2, ())))
    return (2, (0, 1, 0), steps, (-1, 0, -1))


def trace_of(rule, sorts):
    """The trace of the point of a rule; the rules and conditions in it are told first."""
    kind = rule[0]
    if kind == "only":
        return Read(sieve_of_condition(rule[1], sorts), only_reader())
    if kind == "pick":
        reader = front_reader(rule[2]) if rule[1] == "front" else end_reader(rule[2])
        return Read(sieve_of_condition(rule[3], sorts), reader)
    readers = [reader_of_rule(told, sorts) for told in rule[1:] if type(told) == tuple]
    if kind == "else":
        return Decided(readers[0], readers[0], readers[1])
    if kind == "if":
        return Decided(readers[0], readers[1], readers[2])
    return Ahead(readers[0], readers[1]) if rule[1] == "ahead" else Behind(readers[0], readers[1])


def reader_of_rule(rule, sorts):
    """The least reader of a rule; TooGreat(64), TooGreat(200), TooGreat(8) as the first part tells."""
    return reader_traced(trace_of(rule, sorts))


def reader_meant(rule, sorts):
    """The least reader with the points of the rule."""
    need_rule(rule)
    check_sorts(sorts)
    return reader_of_rule(rule, sorts)
