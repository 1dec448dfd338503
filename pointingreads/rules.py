"""Rules and conditions in words, and what they say of short rows."""

from pointingreads.blocks import all_marks
from pointingreads.checks import are_whole, is_tuple, is_whole
from pointingreads.errors import BadRule
from pointingreads.rows import need_row, need_short

MOST_PARTS = 40
MOST_DEEP = 12
MOST_NUMBER = 8
SIDES = ("ahead", "behind")
ENDS = ("front", "end")
# for each kind what its things behind the word are
CONDITIONS = {
    "is": ("marks",), "not": ("condition",), "and": ("condition", "condition"), "or": ("condition", "condition"),
    "next": ("side", "condition"), "some": ("side", "condition", "number"),
    "rest": ("side", "condition", "modulus", "rest"), "until": ("side", "condition", "condition"),
}
RULES = {
    "pick": ("end", "number", "condition"), "only": ("condition",), "else": ("rule", "rule"),
    "part": ("side", "rule", "rule"), "if": ("rule", "rule", "rule"),
}


def things_of(value, sort):
    """What the things of a value are behind its word, if it is of a kind of its sort, otherwise None."""
    if not (is_tuple(value, 1, 5) and type(value[0]) == str):
        return None
    things = CONDITIONS.get(value[0]) if sort == "condition" else RULES.get(value[0])
    return things if things is not None and len(things) + 1 == len(value) else None


def is_thing(value, thing, whole):
    """Whether a value is a right thing in a part, unless it is a part itself."""
    if thing == "side":
        return type(value) == str and value in SIDES
    if thing == "end":
        return type(value) == str and value in ENDS
    if thing == "number":
        return is_whole(value, 1, MOST_NUMBER)
    if thing == "modulus":
        return is_whole(value, 2, MOST_NUMBER)
    if thing == "rest":
        return type(whole[3]) == int and is_whole(value, 0, whole[3] - 1)
    if thing == "marks":
        return is_tuple(value, 0, 4) and are_whole(value, 0, 3) and sorted(set(value)) == list(value)
    return True


def has_form(value, sort):
    """Whether a value has the form of a condition or a rule, whatever its parts are."""
    things = things_of(value, sort)
    if things is None:
        return False
    return all([is_thing(told, thing, value) for told, thing in zip(value[1:], things)])


def parts_within(value, sort):
    """The pairs (part, sort) directly in a value that has the form."""
    return [
        (told, thing) for told, thing in zip(value[1:], things_of(value, sort)) if thing in ("condition", "rule")
    ]


def fault_in(value, sort):
    """None, or the word of the first fault of a value that should be of a sort."""
    # the parts that are still to be looked at, the next one last
    todo = [(value, sort, 0)]
    many = 0
    while todo:
        part, kind, deep = todo.pop()
        many += 1
        if many > MOST_PARTS:
            return "many"
        if deep >= MOST_DEEP:
            return "deep"
        if not has_form(part, kind):
            return "form"
        within = parts_within(part, kind)
        todo.extend([(told, thing, deep + 1) for told, thing in within[::-1]])
    return None


def condition_fault(value):
    """None for a condition, otherwise the word of its first fault."""
    return fault_in(value, "condition")


def rule_fault(value):
    """None for a rule, otherwise the word of its first fault."""
    return fault_in(value, "rule")


def need_condition(condition):
    """The condition, if it is one."""
    fault = condition_fault(condition)
    if fault is not None:
        raise BadRule(fault)
    return condition


def need_rule(rule):
    """The rule, if it is one."""
    fault = rule_fault(rule)
    if fault is not None:
        raise BadRule(fault)
    return rule


def truths_ahead(condition, marks):
    """For each entry whether it is such as one of the kinds with the side "ahead" says."""
    kind = condition[0]
    such = truths_of(condition[2], marks)
    if kind == "next":
        return [False] + such[:-1]
    if kind == "until":
        between = truths_of(condition[3], marks)
        found = []
        told = False
        for one, other in zip(such, between):
            found.append(told)
            told = one or (told and other)
        return found
    found = []
    many = 0
    for one in such:
        found.append(many >= condition[3] if kind == "some" else many % condition[3] == condition[4])
        many += 1 if one else 0
    return found


def turned_condition(condition):
    """The condition for the row that is read from the end."""
    side = {"ahead": "behind", "behind": "ahead"}
    return tuple([
        turned_condition(told) if thing == "condition" else side[told] if thing == "side" else told
        for told, thing in zip(condition, ("word",) + CONDITIONS[condition[0]])
    ])


def truths_of(condition, marks):
    """For each entry of a word whether it is such as the condition says."""
    kind = condition[0]
    if kind == "is":
        return [mark in condition[1] for mark in marks]
    if kind == "not":
        return [not one for one in truths_of(condition[1], marks)]
    if kind in ("and", "or"):
        return [
            (one and other) if kind == "and" else (one or other)
            for one, other in zip(truths_of(condition[1], marks), truths_of(condition[2], marks))
        ]
    if not marks:
        return []
    if condition[1] == "ahead":
        return truths_ahead(condition, marks)
    return truths_ahead(turned_condition(condition), marks[::-1])[::-1]


def such_entries(condition, row):
    """The places of the entries of a short row that are such as the condition says."""
    need_condition(condition)
    need_row(row)
    need_short(row)
    return tuple([place for place, one in enumerate(truths_of(condition, all_marks(row))) if one])


def place_picked(rule, marks):
    """The point of a rule that picks by a condition."""
    such = [place for place, one in enumerate(truths_of(rule[-1], marks)) if one]
    if rule[0] == "only":
        return such[0] if len(such) == 1 else None
    if len(such) < rule[2]:
        return None
    return such[rule[2] - 1] if rule[1] == "front" else such[len(such) - rule[2]]


def place_in_part(rule, marks):
    """The point of a rule that looks at a part of the row."""
    at = place_told(rule[2], marks)
    if at is None:
        return None
    if rule[1] == "ahead":
        return place_told(rule[3], marks[:at])
    place = place_told(rule[3], marks[at + 1:])
    return None if place is None else at + 1 + place


def place_told(rule, marks):
    """The point of a rule in a word."""
    kind = rule[0]
    if kind in ("pick", "only"):
        return place_picked(rule, marks)
    if kind == "part":
        return place_in_part(rule, marks)
    place = place_told(rule[1], marks)
    if kind == "else":
        return place_told(rule[2], marks) if place is None else place
    return place_told(rule[3] if place is None else rule[2], marks)


def rule_point(rule, row):
    """The point of the rule in a short row."""
    need_rule(rule)
    need_row(row)
    need_short(row)
    return place_told(rule, all_marks(row))
