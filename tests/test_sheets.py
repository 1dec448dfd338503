"""[90], with [84] and [89]: sheets, and verdicts on what they tell."""

from pointingreads.errors import (
    BadName, BadNumber, BadReader, BadRow, BadRule, BadSieve, BadText, ReadError, TooGreat)
from pointingreads.least import least_reader
from pointingreads.likes import are_alike
from pointingreads.live import Live
from pointingreads.logs import log_text, read_log
from pointingreads.lookers import is_looker, looker_of
from pointingreads.meant import reader_meant
from pointingreads.named import NAMES, reader_named
from pointingreads.picking import pick_number
from pointingreads.reading import point
from pointingreads.sheets import judged, sheet_entries
from pointingreads.steadiness import is_steady
from pointingreads.surroundings import stand_for
from pointingreads.texts import reader_text, row_text, rule_text, sieve_text
from tests.helpers import (
    GREAT, NO_INTEGERS, Case, chance, chance_reader, chance_row, chance_rule, chance_sieve, holding_reader, marks_of)
from tests.test_live import chance_copies
from tests.texthelpers import VERDICTS, holds_each, holds_places, sheet_lines

SORTS = {
    "points": ("reader", "row"), "apart": ("reader", "reader", "row"), "alike": ("reader", "reader"),
    "steady": ("reader",), "looker": ("sieve",), "picks": ("sieve", "row"), "does": ("rule", "reader"),
    "stand": ("reader", "row", "row"), "same": ("row", "row"), "reads": ("live", "row"), "joins": ("live", "live", "row")}


def entry(sort, name, text):
    return "\n".join([sort + " " + name] + ["- " + line for line in text.split("\n")])


def text_of(sort, thing):
    texts = {"row": row_text, "reader": reader_text, "sieve": sieve_text, "rule": rule_text, "live": log_text}
    return texts[sort](thing)


def whole_row(live):
    return sum(map(marks_of, live.parts()), ())


def slow_verdict(word, things, number):
    """Whether a verdict holds; an error of the package counts as no."""
    try:
        return {
            "points": lambda one, two: point(one, two) == number,
            "apart": lambda one, two, three: point(one, three) != point(two, three),
            "alike": are_alike, "steady": is_steady, "looker": is_looker,
            "picks": lambda one, two: pick_number(one, two) == number,
            "does": lambda one, two: reader_meant(one, two[0]) == least_reader(two),
            "stand": lambda one, two, three: stand_for(one, two, three) is not None,
            "same": lambda one, two: marks_of(one) == marks_of(two),
            "reads": lambda one, two: whole_row(one) == marks_of(two),
            "joins": lambda one, two, three: joined_row(one, two) == marks_of(three),
        }[word](*things)
    except ReadError:
        return False


def joined_row(one, two):
    copy = one.twin("q")
    copy.take_over(two)
    return whole_row(copy)


class SheetsTest(Case):
    def chance_things(self, rng):
        things = []
        for number in range(3):
            things.append(("row", "r" * (number + 1), chance_row(rng, 3, 2, 2, 2)))
            reader = rng.choice((chance_reader, holding_reader))(rng, rng.choice((2, 3)), 3, 2)
            things.append(("reader", "d" * (number + 1), rng.choice((reader, reader_named(rng.choice(NAMES), 2)))))
        for number in range(2):
            sieve = chance_sieve(rng, rng.choice((2, 3)), 2, 2, 0.2)
            things.append(("sieve", "s" * (number + 1), rng.choice((sieve, looker_of(reader_named("first", 2))))))
            rule = rng.choice((chance_rule(rng, 0, 1, 2), ("pick", "end", 1, ("is", (0, 1, 2)))))
            things.append(("rule", "u" * (number + 1), rule))
            things.append(("row", "w" * (number + 1), ()))
        for number, live in enumerate(chance_copies(rng, chance_row(rng, 3, 1, 2, 2), 5)):
            things.append(("live", "l" * (number + 1), live))
            row = whole_row(live)
            things.append(("row", "k" * (number + 1), ((row, 1),) if row else ()))
        rng.shuffle(things)
        return things

    def test_against_slow(self):
        rng = chance(581)
        found = {}
        for _ in range(60):
            things = self.chance_things(rng)
            lines = [entry(sort, name, text_of(sort, thing)) for sort, name, thing in things]
            answers = []
            for _ in range(20):
                word = rng.choice(sorted(SORTS))
                chosen = [
                    rng.choice([thing for thing in things if thing[0] == sort or rng.random() < 0.01] or things)
                    for sort in SORTS[word]]
                number = rng.choice((0, 1, 1, 2, 3, None)) if word == "points" else rng.randint(0, 3)
                items = [word] + [name for _, name, _ in chosen]
                if word in ("points", "picks"):
                    items.append("-" if number is None else str(number))
                lines.append(" ".join(items))
                right = all(thing[0] == sort for thing, sort in zip(chosen, SORTS[word]))
                answers.append(right and slow_verdict(word, [thing for _, _, thing in chosen], number))
                found.setdefault((word, answers[-1]), True)
            text = "\n".join(lines)
            self.assertEqual(judged(text), tuple(answers), text)
            told = sheet_entries(text)
            self.assertEqual(told, tuple(things))
            self.assertEqual(
                [thing.holder for sort, _, thing in told if sort == "live"],
                [thing.holder for sort, _, thing in things if sort == "live"])
        self.assertEqual(set(found), {(word, truth) for word in SORTS for truth in (True, False)})

    def test_verdicts(self):
        things = [
            entry("reader", "last", reader_text(reader_named("last", 2))),
            entry("reader", "first", reader_text(reader_named("first", 3))),
            entry("row", "u", "01*" + str(GREAT)), entry("row", "v", "01*" + str(GREAT - 1) + " 0 1"),
            entry("row", "wide", "3"), entry("sieve", "t", sieve_text(looker_of(reader_named("last", 2)))),
            entry("rule", "q", "(pick end 1 (is (0 1 2)))"),
            entry("live", "l", "ann\n01*" + str(GREAT)), entry("live", "m", "bob\n01*" + str(GREAT) + "\nlost 1 bob 0"),
            entry("row", "less", "1 01*" + str(GREAT - 1))]
        for verdict, answer in (
                ("points last u " + str(2 * GREAT - 1), True), ("points last u 0", False), ("points last u -", False),
                ("points last wide -", False), ("points first u 0", True), ("apart last first u", True),
                ("apart last first wide", False), ("alike last first", False), ("alike last last", True),
                ("steady last", True), ("steady u", False), ("steady nobody", False), ("looker t", True),
                ("picks t u 1", True), ("picks t u 0", False), ("picks t wide 0", False), ("does q last", True),
                ("does q first", False), ("does last q", False), ("stand last u v", True), ("same u v", True),
                ("same u less", False), ("reads l u", True), ("reads l v", True), ("reads m u", False),
                ("reads m less", True), ("joins l m less", True), ("joins m l less", True), ("joins l m u", False),
                ("joins l l u", True), ("reads u l", False), ("same u nobody", False)):
            self.assertEqual(judged("\n".join(things + [verdict])), (answer,), verdict)
            self.assertEqual(judged("\n".join(things + ["same u u", verdict, "same u u"])), (True, answer, True))
        self.assertEqual(judged("same a b"), (False,))
        self.assertEqual(sheet_entries("same a b"), ())
        text = "\n".join(things + ["same u v"])
        self.assertEqual([told[:2] for told in sheet_entries(text)], [
            ("reader", "last"), ("reader", "first"), ("row", "u"), ("row", "v"), ("row", "wide"), ("sieve", "t"),
            ("rule", "q"), ("live", "l"), ("live", "m"), ("row", "less")])
        self.assertEqual(sheet_entries(text)[7][2], Live("x", (((0, 1), GREAT),)))
        # a rule that isn't told, and copies with unlike steps
        wide = "(only (or (or (rest ahead (is (0)) 8 0) (rest ahead (is (1)) 8 0)) (rest ahead (is (2)) 2 0)))"
        self.refuses(TooGreat, {"most": 64}, reader_meant, sheet_entries(entry("rule", "q", wide) + "\nsame a a")[0][2], 3)
        self.assertEqual(judged("\n".join([entry("rule", "q", wide), things[1], "does q first", "steady first"])), (False, True))
        lives = [entry("live", "a", "x\n0\nlost 1 x 0"), entry("live", "b", "x\n0\nmarked 1 x 0 1"), entry("row", "u", "-")]
        self.assertEqual(judged("\n".join(lives + ["joins a b u", "joins a a u", "reads a u"])), (False, True, True))

    def test_places(self):
        self.assertEqual(set(VERDICTS), set(SORTS))
        holds_places(self, chance(582), sheet_entries, sheet_lines, 7)
        holds_places(self, chance(583), judged, sheet_lines, 2)
        holds_each(self, sheet_entries, "row u\n- 0*3\nrule q\n- (a 1)\npoints r u -\npicks t u 10")
        for value in NO_INTEGERS + (0, b"same a b"):
            if type(value) is not str:
                self.refuses(BadText, {"line": None, "column": None}, sheet_entries, value)
                self.refuses(BadText, {"line": None, "column": None}, judged, value)

    def test_refused_texts(self):
        row = "row a\n- 0\n"
        for text, line, column in (
                ("", 0, 0), ("row", 0, 3), ("row a", 0, 5), ("row a\n0", 1, 0), ("row a\n-0", 1, 1), ("row a\n- ", 1, 2),
                ("row a\n- 0", 1, 3), (row, 2, 0), (row + "- 0", 2, 0), (row + "row a\n- 0", 3, 3), ("rows", 0, 3),
                ("ro\n", 0, 2), ("re a", 0, 2), ("reads a b\nrow", 1, 1), ("reads a b\nrea", 1, 3), ("same a b\n", 1, 0),
                ("same a b\n- 0", 1, 0), ("same a", 0, 6), ("same a b c", 0, 8), ("same a B", 0, 7),
                ("points a b", 0, 10), ("points a b --", 0, 12), ("points a b 00", 0, 12), ("picks a b -", 0, 10),
                ("points a b " + "1" * 41, 0, 51), ("picks a b " + "1" * 41, 0, 50), ("sieve a\n- 1\n- L 0\nsame", 3, 0),
                ("reader a\n- 1\nsame a a", 2, 0), ("live a\n- b\nsame a a", 2, 0), ("rule a\n- ()\n- ()", 2, 0),
                ("live a\n- b\n- 0\n- x", 3, 2), ("live a\n- b\n- 0\nx", 3, 0), ("row " + "a" * 13, 0, 16),
                ("live a\n- b\n- 0\n" + "- lost 1 a 0\n" * 41, 43, 0), ("steady a b", 0, 8), ("sta", 0, 3), ("sto", 0, 2)):
            self.refuses(BadText, {"line": line, "column": column}, sheet_entries, text)
            self.refuses(BadText, {"line": line, "column": column}, judged, text)
        for text in (
                row + "points a a -", row + "points a a " + "1" * 40, row + "picks a a 0",
                "live a\n- b\n- 0\nsame a a"):
            self.assertEqual(judged(text), (False,))

    def test_things_that_are_none(self):
        bad_row, bad_reader = entry("row", "a", "0*" + "9" * 31), entry("reader", "b", "1\n1 - 0:-")
        bad_sieve, bad_rule = entry("sieve", "c", "1\nL 1\nR 0\nP +"), entry("rule", "d", "(only (is (0)) 1)")
        bad_live, bad_log = entry("live", "e", "x\n0\nlost 1 x 1"), entry("live", "f", "x\n0*" + "9" * 31 + "\nlost 1 x 1.x")
        kinds = (
            (bad_row, BadRow, {"place": 0}), (bad_reader, BadReader, {"word": "held", "stand": 0}),
            (bad_sieve, BadSieve, {"word": "left"}), (bad_rule, BadRule, {"word": "form"}),
            (bad_live, BadNumber, {"value": 0}), (bad_log, BadRow, {"place": 0}))
        for function in (sheet_entries, judged):
            for first, error, fields in kinds:
                self.refuses(error, fields, function, first + "\nsame x y")
                for other, _, _ in kinds:
                    if other != first:
                        self.refuses(error, fields, function, first + "\n" + other + "\nsame x y")
                # a name that comes again comes first, wherever it stands
                twice = entry("row", "z", "0") + "\n" + entry("rule", "z", "()")
                self.refuses(BadName, {"name": "z"}, function, first + "\n" + twice + "\nsame x y")
                # what can't be read comes ahead of all
                self.refuses(BadText, {"line": 0, "column": 0}, function, "x" + first + "\n" + twice + "\nsame x y")
            text = "\n".join([entry("row", name, "0") for name in ("a", "b", "c", "b", "a")] + ["same a a"])
            self.refuses(BadName, {"name": "b"}, function, text)

    def test_great_sheets(self):
        sieve = chance_sieve(chance(584), 4, 64, 64)
        reader = chance_reader(chance(585), 4, 200, 8)
        text = "\n".join([
            entry("sieve", "s", sieve_text(sieve)), entry("reader", "r", reader_text(reader)), "alike r r"])
        self.assertEqual(sheet_entries(text), (("sieve", "s", sieve), ("reader", "r", reader)))
        self.assertEqual(judged(text), (True,))
        log = read_log("a\n01\n" + "\n".join("put " + str(number) + " a - 0" for number in range(1, 41)))
        text = entry("live", "l", log_text(log)) + "\n" + entry("row", "u", "0*41 1") + "\nreads l u\njoins l l u"
        self.assertEqual(judged(text), (True, True))
