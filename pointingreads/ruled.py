"""What conditions and rules say of all rows."""

from pointingreads.combined import sieve_of_marks
from pointingreads.leastsieves import picks_parted
from pointingreads.meant import reader_of_rule, sieve_of_condition
from pointingreads.rankings import check_sorts
from pointingreads.rules import need_condition, need_rule
from pointingreads.twofold import word_against


def sieves_meant(condition, other, sorts):
    """What two conditions mean."""
    need_condition(condition)
    need_condition(other)
    check_sorts(sorts)
    return sieve_of_condition(condition, sorts), sieve_of_condition(other, sorts)


def readers_meant(rule, other, sorts):
    """What two rules mean."""
    need_rule(rule)
    need_rule(other)
    check_sorts(sorts)
    return reader_of_rule(rule, sorts), reader_of_rule(other, sorts)


def mean_alike(condition, other, sorts):
    """Whether both conditions mean alike."""
    sieve, other_sieve = sieves_meant(condition, other, sorts)
    return sieve == other_sieve


def rules_alike(rule, other, sorts):
    """Whether both rules mean alike."""
    reader, other_reader = readers_meant(rule, other, sorts)
    return reader == other_reader


def condition_apart(condition, other, sorts):
    """None, or the least row with an entry that is such for just one of both, and its place."""
    sieve, other_sieve = sieves_meant(condition, other, sorts)
    return picks_parted(sieve, other_sieve)


def rule_apart(rule, other, sorts):
    """The least row with unlike points, or None."""
    reader, other_reader = readers_meant(rule, other, sorts)
    return word_against(reader, other_reader, ("none", "same"))


def first_such(condition, sorts):
    """None, or the least row with an entry that is such, and its place."""
    need_condition(condition)
    check_sorts(sorts)
    return picks_parted(sieve_of_condition(condition, sorts), sieve_of_marks(sorts, ()))


def never_such(condition, sorts):
    """Whether no entry of any row is such."""
    need_condition(condition)
    check_sorts(sorts)
    return sieve_of_condition(condition, sorts) == sieve_of_marks(sorts, ())


def always_such(condition, sorts):
    """Whether each entry of every row is such."""
    need_condition(condition)
    check_sorts(sorts)
    return sieve_of_condition(condition, sorts) == sieve_of_marks(sorts, tuple(range(sorts)))
