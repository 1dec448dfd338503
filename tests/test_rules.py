"""[69], [70], [71], [75]: conditions and rules, what they mean, and what is told of them for all rows."""

from pointingreads.errors import BadRow, BadRule, BadSorts, TooGreat
from pointingreads.least import least_reader
from pointingreads.leastsieves import least_sieve
from pointingreads.meant import reader_meant, sieve_meant
from pointingreads.named import NAMES, reader_named
from pointingreads.picking import picked
from pointingreads.reading import point
from pointingreads.ruled import (
    always_such, condition_apart, first_such, mean_alike, never_such, rule_apart, rules_alike)
from pointingreads.rules import condition_fault, need_condition, need_rule, rule_fault, rule_point, such_entries
from pointingreads.weaves import reader_else
from pointingreads.within import part_ahead, part_behind
from tests.helpers import (
    GREAT, NO_INTEGERS, NO_ROWS, ODD, OTHERS, Case, as_row, chance, chance_condition, chance_row, chance_rule, marks_of,
    slow_all_such, slow_picks, slow_point, slow_rule, words)

ANY = ("is", (0, 1, 2, 3))
ZERO = ("is", (0,))
ONE = ("is", (1,))
NEVER = ("is", ())
# rules of the points of named readers
NAMED = {
    "none": ("only", NEVER), "first": ("pick", "front", 1, ANY), "last": ("pick", "end", 1, ANY),
    "second": ("pick", "front", 2, ANY), "third": ("pick", "front", 3, ANY), "next to last": ("pick", "end", 2, ANY),
    "even last": ("pick", "end", 1, ("rest", "ahead", ANY, 2, 0)),
    "first or last": (
        "if", ("pick", "front", 1, ("rest", "ahead", ANY, 2, 1)),
        ("if", ("pick", "end", 1, ("and", ("rest", "ahead", ANY, 2, 1), ("not", ("next", "behind", ANY)))),
         ("pick", "front", 1, ANY), ("pick", "end", 1, ANY)),
        ("pick", "end", 1, ANY)),
    "new": ("pick", "end", 1, ("or", ("not", ("next", "ahead", ANY)), ("or", ("and", ZERO, ("next", "ahead", ONE)),
                                                                     ("and", ONE, ("next", "ahead", ZERO))))),
}
LIMITS = {1: 12, 2: 7, 3: 5, 4: 4}
# conditions and rules that are none, and their faults
CONDITION_FAULTS = (
    ((), "form"), (("is",), "form"), (("is", [0]), "form"), (("is", (0, 0)), "form"), (("is", (1, 0)), "form"),
    (("is", (4,)), "form"), (("is", (-1,)), "form"), (("is", (False,)), "form"), (("is", (0,), 1), "form"),
    (("is", (0, 1, 2, 3, 3)), "form"), (("is", 0), "form"), (("Is", (0,)), "form"), ((b"is", (0,)), "form"),
    (["is", (0,)], "form"), (("not",), "form"), (("not", ZERO, ZERO), "form"), (("not", None), "form"),
    (("not", ("pick", "front", 1, ZERO)), "form"), (("and", ZERO), "form"), (("and", ZERO, 1), "form"),
    (("or", ZERO, ZERO, ZERO), "form"), (("next", "front", ZERO), "form"), (("next", "ahead"), "form"),
    (("next", 0, ZERO), "form"), (("next", "ahead", ZERO, 1), "form"), (("some", "ahead", ZERO), "form"),
    (("some", "ahead", ZERO, 0), "form"), (("some", "ahead", ZERO, 9), "form"), (("some", "ahead", ZERO, True), "form"),
    (("some", "ahead", ZERO, "1"), "form"), (("rest", "ahead", ZERO, 1, 0), "form"),
    (("rest", "ahead", ZERO, 9, 0), "form"), (("rest", "ahead", ZERO, 2, 2), "form"),
    (("rest", "ahead", ZERO, 2, -1), "form"), (("rest", "ahead", ZERO, 2, False), "form"),
    (("rest", "ahead", ZERO, True, 0), "form"), (("rest", "ahead", ZERO, 2), "form"),
    (("rest", "ahead", ZERO, None, 0), "form"), (("until", "behind", ZERO), "form"),
    (("until", "behind", ZERO, ZERO, ZERO), "form"), (("until", ZERO, ZERO, "behind"), "form"), (NAMED["none"], "form"))
RULE_FAULTS = (
    (ZERO, "form"), (("pick", "ahead", 1, ZERO), "form"), (("pick", "front", 0, ZERO), "form"),
    (("pick", "front", 9, ZERO), "form"), (("pick", "end", True, ZERO), "form"), (("pick", "end", 1), "form"),
    (("pick", "end", 1, NAMED["none"]), "form"), (("pick", "end", 1, ZERO, ZERO), "form"), (("only",), "form"),
    (("only", NAMED["none"]), "form"), (("else", NAMED["none"]), "form"), (("else", NAMED["none"], ZERO), "form"),
    (("part", "front", NAMED["none"], NAMED["none"]), "form"), (("part", "ahead", NAMED["none"]), "form"),
    (("if", NAMED["none"], NAMED["none"]), "form"), (("if", NAMED["none"], NAMED["none"], ZERO), "form"),
    (("if",) + (NAMED["none"],) * 4, "form"), ((("only", ZERO),), "form"))


def nested(value, times):
    for _ in range(times):
        value = ("not", value)
    return value


def with_parts(many):
    """A condition with so many parts, few of them in one another."""
    values = [ZERO] * ((many + 1) // 2)
    while len(values) > 1:
        values = [
            ("and",) + tuple(values[at:at + 2]) if at + 1 < len(values) else values[at]
            for at in range(0, len(values), 2)]
    return values[0] if many % 2 else ("not", values[0])


def counted(moduli, side="ahead"):
    """A condition that needs as many states on a side as the product of the moduli."""
    value = ("rest", side, ("is", (0,)), moduli[0], 0)
    for modulus, mark in zip(moduli[1:], (1, 2)):
        value = ("or", value, ("rest", side, ("is", (mark,)), modulus, 0))
    return value


# rules with too many stands, and with too many hands
STANDS = ("pick", "front", 8, ("and", ZERO, counted((8, 8))))
HANDS = ("part", "ahead", ("pick", "end", 1, ANY), ("pick", "end", 8, ANY))


def spoilt_parts(value):
    """A condition or rule with each of its things but its marks spoilt, one at a time."""
    for at, thing in enumerate(value):
        if isinstance(thing, tuple) and not all(isinstance(told, int) for told in thing):
            others = list(spoilt_parts(thing)) + [thing[:-1], thing + (0,), list(thing), None, thing[0]]
        elif isinstance(thing, tuple):
            others = [thing + (4,), thing + (-1,), None, 0, list(thing)] + [thing * 2] * bool(thing)
        elif isinstance(thing, int):
            others = [9, -1, None, str(thing), True]
        else:
            others = [thing + "s", "", None, 0, b"is"]
        for other in others:
            yield value[:at] + (other,) + value[at + 1:]


class FormTest(Case):
    def test_faults(self):
        for value, fault in CONDITION_FAULTS:
            self.assertEqual(condition_fault(value), fault, value)
            self.assertEqual(condition_fault(("and", ZERO, value)), fault, value)
            self.assertEqual(rule_fault(("only", value)), fault, value)
            self.refuses(BadRule, {"word": fault}, need_condition, value)
            self.refuses(BadRule, {"word": fault}, such_entries, value, None)
            self.refuses(BadRule, {"word": fault}, sieve_meant, value, None)
        for value, fault in RULE_FAULTS:
            self.assertEqual(rule_fault(value), fault, value)
            self.assertEqual(rule_fault(("else", NAMED["none"], value)), fault, value)
            self.refuses(BadRule, {"word": fault}, need_rule, value)
            self.refuses(BadRule, {"word": fault}, rule_point, value, None)
            self.refuses(BadRule, {"word": fault}, reader_meant, value, None)
        for value in NO_INTEGERS + (0, 1, "is", "(is (0))"):
            self.assertEqual(condition_fault(value), "form")
            self.assertEqual(rule_fault(value), "form")
            self.assertEqual(rule_fault(("only", value)), "form")

    def test_a_spoilt_part(self):
        rng = chance(509)
        for _ in range(60):
            condition, rule = chance_condition(rng, 3, 3), chance_rule(rng, 2, 1, 3)
            for value, fault in ((condition, condition_fault), (rule, rule_fault)):
                for other in spoilt_parts(value):
                    self.assertEqual(fault(other), "form", other)

    def test_what_is_right(self):
        rng = chance(501)
        for _ in range(200):
            condition = chance_condition(rng, rng.randint(0, 3), 8)
            rule = chance_rule(rng, rng.randint(0, 2), 1, 8)
            self.assertIsNone(condition_fault(condition))
            self.assertIsNone(rule_fault(rule))
            self.assertIs(need_condition(condition), condition)
            self.assertIs(need_rule(rule), rule)
            self.assertEqual(rule_fault(condition), "form")
            self.assertEqual(condition_fault(rule), "form")
        for rest in range(8):
            self.assertIsNone(condition_fault(("rest", "behind", ZERO, 8, rest)))

    def test_many_and_deep(self):
        for many in range(1, 41):
            self.assertIsNone(condition_fault(with_parts(many)), many)
            if many < 40:
                self.assertIsNone(rule_fault(("only", with_parts(many))), many)
        for many in (41, 42, 60, 100):
            self.assertEqual(condition_fault(with_parts(many)), "many")
        self.assertEqual(rule_fault(("only", with_parts(40))), "many")
        self.assertIsNone(condition_fault(nested(ZERO, 11)))
        self.assertEqual(condition_fault(nested(ZERO, 12)), "deep")
        self.assertIsNone(rule_fault(("only", nested(ZERO, 10))))
        self.assertEqual(rule_fault(("only", nested(ZERO, 11))), "deep")
        # what stands in the place of a part counts as one, whatever it is
        self.assertEqual(condition_fault(nested(None, 11)), "form")
        self.assertEqual(condition_fault(nested(None, 12)), "deep")
        self.assertEqual(condition_fault(nested(ODD, 40)), "deep")
        thirty_nine = with_parts(39)
        self.assertEqual(condition_fault(("and", thirty_nine, ZERO)), "many")
        self.assertEqual(condition_fault(("and", thirty_nine, None)), "many")
        self.assertEqual(condition_fault(("and", None, thirty_nine)), "form")
        self.assertEqual(condition_fault(("not", ("and", with_parts(37), None))), "form")
        # from the left, each part ahead of its own parts
        self.assertEqual(condition_fault(("and", nested(ZERO, 11), None)), "deep")
        self.assertEqual(condition_fault(("and", None, nested(ZERO, 11))), "form")
        self.assertEqual(condition_fault(("some", "ahead", nested(ZERO, 12), 0)), "form")
        self.assertEqual(condition_fault(("and", ("and", with_parts(37), ZERO), nested(ZERO, 12))), "many")
        self.assertEqual(condition_fault(("and", with_parts(25), nested(ZERO, 12))), "deep")
        self.assertEqual(condition_fault(("and", with_parts(27), nested(ZERO, 12))), "deep")
        self.assertEqual(condition_fault(("and", with_parts(29), nested(ZERO, 12))), "many")


class WordsTest(Case):
    def test_against_slow(self):
        rng = chance(502)
        for _ in range(250):
            condition = chance_condition(rng, rng.randint(0, 3), 4)
            rule = chance_rule(rng, rng.randint(0, 2), rng.randint(0, 1), 4)
            for _ in range(6):
                row = chance_row(rng, 4, 3, 3, 4)
                word = marks_of(row)
                self.assertEqual(such_entries(condition, row), slow_all_such(condition, word))
                self.assertEqual(rule_point(rule, row), slow_rule(rule, word))

    def test_the_document(self):
        rule = ("pick", "end", 1, ("next", "ahead", ("is", (0,))))
        self.assertEqual(rule_point(rule, (((0, 1, 0, 0, 3, 1), 1),)), 4)
        self.assertEqual(rule_point(rule, (((1, 0), 1),)), None)
        self.assertEqual(such_entries(("some", "behind", ("is", (3,)), 2), (((3,), 5),)), (0, 1, 2))
        self.assertEqual(such_entries(("until", "ahead", ("is", (0,)), ("is", (1,))), (((0, 1, 1, 2, 1), 1),)), (1, 2, 3))
        self.assertEqual(rule_point(("only", ("is", (2,))), (((0, 2), 1),)), 1)
        self.assertEqual(rule_point(("only", ("is", (2,))), (((0, 2), 2),)), None)
        behind = ("part", "behind", NAMED["first"], ("pick", "front", 1, ZERO))
        self.assertEqual(rule_point(behind, (((0, 2), 2),)), 2)
        self.assertEqual(rule_point(behind, (((0, 0, 2), 1),)), 1)
        self.assertEqual(rule_point(behind, (((0, 2), 1),)), None)
        ahead = ("part", "ahead", NAMED["last"], ("pick", "end", 1, ZERO))
        self.assertEqual(rule_point(ahead, (((2, 0), 2),)), 1)
        self.assertEqual(rule_point(ahead, (((2, 0), 1),)), None)
        for rule in NAMED.values():
            self.assertIsNone(rule_point(rule, ()))

    def test_bounds_and_wrong_rows(self):
        self.assertEqual(such_entries(ANY, (((0,), 300),)), tuple(range(300)))
        self.assertEqual(rule_point(NAMED["last"], (((0,), 300),)), 299)
        for row in ((((0,), 301),), (((0, 1), GREAT),)):
            self.refuses(TooGreat, {"most": 300}, such_entries, ANY, row)
            self.refuses(TooGreat, {"most": 300}, rule_point, NAMED["last"], row)
        for value in OTHERS + ((1,), ((0,), 1)):
            self.assertRaises(BadRow, such_entries, ANY, value)
            self.assertRaises(BadRow, rule_point, NAMED["last"], value)
        self.refuses(BadRow, {"place": 1}, such_entries, ANY, (((0,), 301), ((4,), 1)))
        self.refuses(BadRow, {"place": 1}, rule_point, NAMED["last"], (((0,), 301), ((4,), 1)))


class MeantTest(Case):
    def test_conditions(self):
        rng = chance(503)
        for _ in range(120):
            condition = chance_condition(rng, rng.randint(0, 3), 3)
            sorts = rng.randint(1, 4)
            sieve = sieve_meant(condition, sorts)
            self.assertEqual(least_sieve(sieve), sieve)
            self.assertEqual(sieve[0], sorts)
            for word in words(sorts, LIMITS[sorts]):
                self.assertEqual(slow_picks(sieve, word), slow_all_such(condition, word), (condition, word))

    def test_rules(self):
        rng = chance(504)
        great = 0
        for _ in range(120):
            rule = chance_rule(rng, rng.randint(0, 2), rng.randint(0, 2), 3)
            sorts = rng.randint(1, 4)
            try:
                reader = reader_meant(rule, sorts)
            except TooGreat:
                great += 1
                continue
            self.assertEqual(least_reader(reader), reader)
            self.assertEqual(reader[0], sorts)
            for word in words(sorts, LIMITS[sorts]):
                self.assertEqual(slow_point(reader, word), slow_rule(rule, word), (rule, word))
        self.assertLess(great, 12)

    def test_named_readers(self):
        for name, rule in NAMED.items():
            self.assertEqual(reader_meant(rule, 2), least_reader(reader_named(name, 2)), name)
        self.assertLess(len(NAMED), len(NAMES))

    def test_long_rows(self):
        rng = chance(505)
        for _ in range(60):
            condition = chance_condition(rng, 2, 8)
            rule = chance_rule(rng, 1, 1, 8)
            row = chance_row(rng, 3, 4, 4, 9)
            try:
                self.assertEqual(picked(sieve_meant(condition, 3), row), such_entries(condition, row))
                self.assertEqual(point(reader_meant(rule, 3), row), rule_point(rule, row))
            except TooGreat as error:
                self.assertIn(error.most, (8, 64, 200))

    def test_numbers_at_their_bounds(self):
        for number in (1, 8):
            some = sieve_meant(("some", "ahead", ANY, number), 1)
            self.assertEqual((len(some[1]), len(some[2])), (number + 1, 1))
            some = sieve_meant(("some", "behind", ANY, number), 1)
            self.assertEqual((len(some[1]), len(some[2])), (1, number + 1))
            self.assertEqual(reader_meant(("pick", "front", number, ANY), 1)[1], (0,) * number + (1,))
            self.assertEqual(reader_meant(("pick", "end", number, ANY), 1)[1], tuple(range(number + 1)))
        for modulus in range(2, 9):
            for rest in range(modulus):
                sieve = sieve_meant(("rest", "ahead", ZERO, modulus, rest), 2)
                self.assertEqual((len(sieve[1]), len(sieve[2])), (modulus, 1))
                self.assertEqual(
                    picked(sieve, (((0,), 60),)), tuple(place for place in range(60) if place % modulus == rest))
        # marks that no entry has
        self.assertEqual(sieve_meant(("is", (1, 2, 3)), 1), sieve_meant(NEVER, 1))
        self.assertEqual(sieve_meant(ANY, 2), sieve_meant(("is", (0, 1)), 2))
        self.assertEqual(reader_meant(("pick", "front", 1, ("is", (2, 3))), 2), reader_named("none", 2))

    def test_too_great(self):
        self.assertEqual(len(sieve_meant(counted((8, 8)), 2)[1]), 64)
        self.assertEqual(len(sieve_meant(counted((8, 8), "behind"), 2)[2]), 64)
        for value in (counted((4, 4, 5)), counted((4, 4, 5), "behind")):
            self.refuses(TooGreat, {"most": 64}, sieve_meant, value, 3)
            # a condition in it is too great, though it itself would not be
            self.refuses(TooGreat, {"most": 64}, sieve_meant, ("and", value, NEVER), 3)
            self.refuses(TooGreat, {"most": 64}, sieve_meant, ("and", NEVER, value), 3)
            self.refuses(TooGreat, {"most": 64}, reader_meant, ("only", value), 3)
        chain = ("some", "ahead", ("some", "ahead", ("some", "ahead", ZERO, 8), 8), 8)
        self.assertEqual(len(sieve_meant(chain, 1)[1]), 25)
        # from the left, each ahead of the one in which it stands
        wide = ("only", counted((4, 4, 5)))
        self.refuses(TooGreat, {"most": 200}, reader_meant, STANDS, 3)
        self.refuses(TooGreat, {"most": 8}, reader_meant, HANDS, 3)
        self.assertEqual(reader_meant(("part", "ahead", NAMED["last"], ("pick", "end", 7, ANY)), 1)[1], tuple(range(9)))
        rules = ((wide, 64), (STANDS, 200), (HANDS, 8))
        for rule, most in rules:
            self.refuses(TooGreat, {"most": most}, reader_meant, ("else", NAMED["first"], rule), 3)
            self.refuses(TooGreat, {"most": most}, reader_meant, ("part", "ahead", NAMED["none"], rule), 3)
            for other, _ in rules:
                self.refuses(TooGreat, {"most": most}, reader_meant, ("else", rule, other), 3)
                self.refuses(TooGreat, {"most": most}, reader_meant, ("if", NAMED["last"], rule, other), 3)
                self.refuses(TooGreat, {"most": most}, reader_meant, ("part", "behind", ("else", rule, other), wide), 3)

    def test_wrong_sorts(self):
        for value in NO_INTEGERS + (0, 5, -1, GREAT):
            for function in (sieve_meant, first_such, never_such, always_such):
                self.refuses(BadSorts, {"value": value}, function, ANY, value)
                self.refuses(BadRule, {"word": "form"}, function, value, value)
            self.refuses(BadSorts, {"value": value}, reader_meant, NAMED["last"], value)
            for function in (mean_alike, condition_apart):
                self.refuses(BadSorts, {"value": value}, function, ANY, ZERO, value)
            for function in (rules_alike, rule_apart):
                self.refuses(BadSorts, {"value": value}, function, NAMED["last"], NAMED["first"], value)


class RuledTest(Case):
    def test_conditions_apart(self):
        rng = chance(506)
        for _ in range(150):
            sorts = rng.randint(1, 3)
            condition = chance_condition(rng, rng.randint(0, 2), 3)
            other = chance_condition(rng, rng.randint(0, 2), 3)
            apart = condition_apart(condition, other, sorts)
            self.assertEqual(mean_alike(condition, other, sorts), apart is None)
            self.assertEqual(apart is None, sieve_meant(condition, sorts) == sieve_meant(other, sorts))
            self.assertEqual(apart, self.slow_apart(
                sorts, apart, lambda word: set(slow_all_such(condition, word)) ^ set(slow_all_such(other, word))))
            such = first_such(condition, sorts)
            self.assertEqual(never_such(condition, sorts), such is None)
            self.assertEqual(such, self.slow_apart(sorts, such, lambda word: slow_all_such(condition, word)))
            self.assertEqual(
                always_such(condition, sorts), first_such(("not", condition), sorts) is None)

    def slow_apart(self, sorts, told, differing):
        """The least word with a differing entry, if there is one among short words; otherwise what is told."""
        for word in words(sorts, LIMITS[sorts]):
            if differing(word):
                return (word, min(differing(word)))
        if told is not None:
            self.assertGreater(len(told[0]), LIMITS[sorts])
            self.assertEqual(min(differing(told[0])), told[1])
        return told

    def test_rules_apart(self):
        rng = chance(507)
        for _ in range(100):
            sorts = rng.randint(1, 3)
            rule = chance_rule(rng, rng.randint(0, 1), 1, 2)
            other = chance_rule(rng, rng.randint(0, 1), 1, 2)
            apart = rule_apart(rule, other, sorts)
            self.assertEqual(rules_alike(rule, other, sorts), apart is None)
            found = [
                word for word in words(sorts, LIMITS[sorts]) if slow_rule(rule, word) != slow_rule(other, word)]
            if found or apart is None:
                self.assertEqual(apart, found[0] if found else None)
            else:
                self.assertNotEqual(slow_rule(rule, apart), slow_rule(other, apart))

    def test_what_means_alike(self):
        self.assertTrue(mean_alike(("not", ("not", ZERO)), ZERO, 3))
        self.assertTrue(mean_alike(ZERO, ("is", (0, 3)), 3))
        self.assertFalse(mean_alike(ZERO, ("is", (0, 3)), 4))
        self.assertTrue(mean_alike(("some", "ahead", ANY, 1), ("next", "ahead", ANY), 2))
        self.assertTrue(mean_alike(("until", "behind", ZERO, NEVER), ("next", "behind", ZERO), 2))
        self.assertTrue(rules_alike(("pick", "end", 1, ZERO), ("else", ("only", ZERO), ("pick", "end", 1, ZERO)), 2))
        self.assertFalse(rules_alike(("pick", "end", 1, ZERO), ("pick", "front", 1, ZERO), 2))
        self.assertEqual(rule_apart(("pick", "end", 8, ANY), ("pick", "end", 7, ANY), 2), (0,) * 7)
        self.assertEqual(condition_apart(("some", "ahead", ONE, 8), NEVER, 2), ((1,) * 8 + (0,), 8))
        self.assertEqual(first_such(("some", "behind", ONE, 2), 2), ((0, 1, 1), 0))
        self.assertTrue(always_such(("or", ZERO, ("not", ZERO)), 4))
        self.assertTrue(always_such(("is", (0, 1)), 2))
        self.assertFalse(always_such(("is", (0, 1)), 3))
        self.assertTrue(never_such(("is", (3,)), 3))

    def test_errors_in_their_order(self):
        wide = counted((4, 4, 5))
        for function in (mean_alike, condition_apart):
            self.refuses(BadRule, {"word": "form"}, function, None, nested(ZERO, 12), None)
            self.refuses(BadRule, {"word": "deep"}, function, nested(ZERO, 12), None, None)
            self.refuses(BadRule, {"word": "deep"}, function, wide, nested(ZERO, 12), None)
            self.refuses(BadSorts, {"value": None}, function, wide, wide, None)
            self.refuses(TooGreat, {"most": 64}, function, wide, wide, 3)
            self.refuses(TooGreat, {"most": 64}, function, ZERO, wide, 3)
        for function in (rules_alike, rule_apart):
            self.refuses(BadRule, {"word": "form"}, function, None, ("only", nested(ZERO, 12)), None)
            self.refuses(BadRule, {"word": "deep"}, function, ("only", nested(ZERO, 12)), None, None)
            self.refuses(BadRule, {"word": "deep"}, function, ("only", wide), ("only", nested(ZERO, 12)), None)
            self.refuses(BadSorts, {"value": 5}, function, ("only", wide), ("only", wide), 5)
            self.refuses(TooGreat, {"most": 64}, function, ("only", wide), HANDS, 3)
            self.refuses(TooGreat, {"most": 8}, function, HANDS, ("only", wide), 3)
            self.refuses(TooGreat, {"most": 200}, function, STANDS, HANDS, 3)
        for function in (first_such, never_such, always_such):
            self.refuses(TooGreat, {"most": 64}, function, wide, 3)

    def test_rules_beside_readers_put_together(self):
        rng = chance(508)
        for _ in range(40):
            rule, other = chance_rule(rng, 0, 1, 2), chance_rule(rng, 0, 1, 2)
            reader, other_reader = reader_meant(rule, 2), reader_meant(other, 2)
            self.assertEqual(reader_meant(("else", rule, other), 2), reader_else(reader, other_reader))
            self.assertEqual(reader_meant(("part", "behind", rule, other), 2), part_behind(reader, other_reader))
            self.assertEqual(reader_meant(("part", "ahead", rule, other), 2), part_ahead(reader, other_reader))
        for value, place in NO_ROWS[:3]:
            self.refuses(BadRow, {"place": place}, rule_point, NAMED["last"], value)
