"""[83], [84], with [27], [33], [69], [70]: names, texts, and things told by texts."""

import re

from pointingreads.errors import BadReader, BadRow, BadRule, BadSieve, BadText
from pointingreads.least import least_reader
from pointingreads.lettering import is_name
from pointingreads.lookers import looker_of
from pointingreads.meant import reader_meant
from pointingreads.named import NAMES, reader_named
from pointingreads.parsing import parse_condition, parse_reader, parse_row, parse_rule, parse_sieve
from pointingreads.texts import condition_text, reader_text, row_text, rule_text, sieve_text
from tests.helpers import (
    GREAT, NO_INTEGERS, NO_ROWS, SPOILT, Case, chance, chance_condition, chance_reader, chance_row, chance_rule,
    chance_sieve, holding_reader)
from tests.texthelpers import holds_all, holds_each, holds_places, place_refused, reader_lines, row_line, rule_line, sieve_lines

SIEVE = (2, ((0, 1), (1, 0)), ((0, 0),), (((True,), (False,)), ((False,), (True,))))


class NamesTest(Case):
    def test_names(self):
        for value in ("a", "z", "abc", "a" * 12, "zyxwvutsrqpo"):
            self.assertIs(is_name(value), True)
        for value in ("", "a" * 13, "A", "aB", "a1", "a b", " a", "a\n", "-", "a.b", b"a", ("a",), ["a"]) + NO_INTEGERS:
            self.assertIs(is_name(value), False)


class TextsTest(Case):
    def test_the_document(self):
        self.assertEqual(row_text((((0, 1, 1, 0), 3), ((2,), 1))), "0110*3 2")
        self.assertEqual(row_text(()), "-")
        self.assertEqual(row_text((((3,), GREAT),)), "3*1" + "0" * 30)
        reader = (2, (0, 1), (((1, (-1,)), (0, ())), ((1, (-1,)), (0, ()))), (-1, 0))
        self.assertEqual(reader_text(reader), "2\n0 - 1:+ 0:-\n1 0 1:+ 0:-")
        self.assertEqual(sieve_text(SIEVE), "2\nL 0 1\nL 1 0\nR 0 0\nP + -\nP - +")
        self.assertEqual(rule_text(("pick", "front", 2, ("is", (0, 3)))), "(pick front 2 (is (0 3)))")
        self.assertEqual(rule_text(("only", ("is", ()))), "(only (is ()))")
        self.assertEqual(condition_text(("rest", "ahead", ("is", (1,)), 8, 7)), "(rest ahead (is (1)) 8 7)")
        self.assertEqual(reader_text(reader_named("none", 1)), "1\n0 - 0:-")

    def test_there_and_back(self):
        rng = chance(561)
        for _ in range(150):
            row = chance_row(rng, 4, 60, 60, GREAT)
            self.assertEqual(parse_row(row_text(row)), row)
            reader = rng.choice((chance_reader, holding_reader))(rng, rng.randint(1, 4), rng.randint(1, 12), 8)
            self.assertEqual(parse_reader(reader_text(reader)), reader)
            sieve = chance_sieve(rng, rng.randint(1, 4), rng.randint(1, 14), rng.randint(1, 14))
            self.assertEqual(parse_sieve(sieve_text(sieve)), sieve)
            condition = chance_condition(rng, rng.randint(0, 3), 8)
            self.assertEqual(parse_condition(condition_text(condition)), condition)
            rule = chance_rule(rng, rng.randint(0, 1), 2, 8)
            self.assertEqual(parse_rule(rule_text(rule)), rule)
        for name in NAMES:
            reader = reader_named(name, 3)
            self.assertEqual(parse_reader(reader_text(reader)), reader)
            self.assertEqual(parse_sieve(sieve_text(looker_of(reader))), looker_of(reader))
        wide = chance_sieve(rng, 4, 64, 64)
        self.assertEqual(parse_sieve(sieve_text(wide)), wide)
        many = chance_reader(rng, 4, 200, 8)
        self.assertEqual(parse_reader(reader_text(many)), many)
        self.assertEqual(reader_meant(parse_rule("(pick end 1 (is (0 1)))"), 2), least_reader(reader_named("last", 2)))
        deep = ("is", (0,))
        for _ in range(11):
            deep = ("not", deep)
        self.assertEqual(parse_condition(condition_text(deep)), deep)

    def test_wrong_things(self):
        for value, place in NO_ROWS:
            if place is None or value != (((0, 1), 2), ((0, 2), 1)):
                self.refuses(BadRow, {"place": place}, row_text, value)
        for value, (word, stand) in SPOILT:
            self.refuses(BadReader, {"word": word, "stand": stand}, reader_text, value)
        for value in NO_INTEGERS:
            self.refuses(BadSieve, {"word": "form"}, sieve_text, value)
            self.refuses(BadRule, {"word": "form"}, rule_text, value)
            self.refuses(BadRule, {"word": "form"}, condition_text, value)
        self.refuses(BadSieve, {"word": "left"}, sieve_text, (2, ((0, 2), (1, 0))) + SIEVE[2:])
        self.refuses(BadRule, {"word": "form"}, rule_text, ("is", (0,)))
        self.refuses(BadRule, {"word": "form"}, condition_text, ("only", ("is", (0,))))


class ParsingTest(Case):
    def test_places(self):
        rng = chance(562)
        for function, make in (
                (parse_row, row_line), (parse_reader, reader_lines), (parse_sieve, sieve_lines), (parse_rule, rule_line),
                (parse_condition, rule_line)):
            holds_places(self, rng, function, make, 12)

    def test_all_short_texts(self):
        item = "[0-3]{1,60}(\\*[1-9][0-9]{0,30})?"
        row = re.compile("(-|" + item + "( " + item + "){0,59})")
        holds_all(self, parse_row, lambda text: row.fullmatch(text) is not None, "03*- 5", 5, 6)
        inner = re.compile("\\(((T|[a-z]{1,12}|[0-9])( (T|[a-z]{1,12}|[0-9]))*)?\\)")

        def is_rule(text):
            while inner.search(text):
                text = inner.sub("T", text)
            return text == "T"

        holds_all(self, parse_rule, is_rule, "(a7 )", 4, 8)

    def test_each_place(self):
        for function, text in (
                (parse_row, "012*30 3"), (parse_reader, "2\n0 - 1:+ 0:-\n1 0 10:0 1:+"), (parse_sieve, sieve_text(SIEVE)),
                (parse_rule, "(pick end 2 (is (0 3)))"), (parse_condition, "(not (is ()))")):
            holds_each(self, function, text)

    def test_what_is_no_text(self):
        for function in (parse_row, parse_reader, parse_sieve, parse_rule, parse_condition):
            for value in NO_INTEGERS + (0, b"-", (), ("-",)):
                if type(value) is not str:
                    self.refuses(BadText, {"line": None, "column": None}, function, value)
            self.refuses(BadText, {"line": 0, "column": 0}, function, "")
            self.refuses(BadText, {"line": 0, "column": 0}, function, "\n")

    def refused(self, function, text, line, column):
        self.refuses(BadText, {"line": line, "column": column}, function, text)

    def test_rows(self):
        self.assertEqual(parse_row("-"), ())
        self.assertEqual(parse_row("0*1"), (((0,), 1),))
        self.assertEqual(parse_row("0123*1" + "0" * 30), (((0, 1, 2, 3), GREAT),))
        self.refuses(BadRow, {"place": 0}, parse_row, "0*1" + "0" * 29 + "1")
        self.refuses(BadRow, {"place": 1}, parse_row, "0 0*" + "9" * 31)
        self.refused(parse_row, "0*" + "9" * 32, 0, 33)
        self.refused(parse_row, "0*0", 0, 2)
        self.refused(parse_row, "0*01", 0, 2)
        self.refused(parse_row, "0*", 0, 2)
        self.refused(parse_row, "04", 0, 1)
        self.refused(parse_row, "--", 0, 1)
        self.refused(parse_row, "- 0", 0, 1)
        self.refused(parse_row, "0 -", 0, 2)
        self.refused(parse_row, "0  0", 0, 2)
        self.refused(parse_row, "0 ", 0, 2)
        self.refused(parse_row, " 0", 0, 0)
        self.refused(parse_row, "0\n", 0, 1)
        self.refused(parse_row, "0*3*3", 0, 3)
        self.assertEqual(len(parse_row("0" * 60)[0][0]), 60)
        self.refused(parse_row, "0" * 61, 0, 60)
        self.assertEqual(len(parse_row(" ".join(["0"] * 60))), 60)
        self.refused(parse_row, " ".join(["0"] * 61), 0, 119)
        self.refused(parse_row, " ".join(["0"] * 60) + " ", 0, 119)

    def test_readers(self):
        last = "1\n0 - 1:+\n1 0 1:+"
        self.assertEqual(parse_reader(last), reader_named("last", 1))
        self.refused(parse_reader, "1", 0, 1)
        self.refused(parse_reader, "5\n", 0, 0)
        self.refused(parse_reader, "0\n", 0, 0)
        self.refused(parse_reader, "1\n", 1, 0)
        self.refused(parse_reader, "1\n9", 1, 0)
        self.refused(parse_reader, "1\n0 8", 1, 2)
        self.refused(parse_reader, "1\n0 - 00:-", 1, 5)
        self.refused(parse_reader, "1\n0 - 1000:-", 1, 7)
        self.refused(parse_reader, "1\n0 - 100-", 1, 7)
        self.refused(parse_reader, "1\n0 - 0:8", 1, 6)
        self.refused(parse_reader, "1\n0 - 0:-0", 1, 7)
        self.refused(parse_reader, "1\n0 - 0:0-", 1, 7)
        self.refused(parse_reader, "1\n0 - 0:" + "0" * 9, 1, 14)
        self.refused(parse_reader, "1\n0 - 0:- 0:-", 1, 7)
        self.refused(parse_reader, "2\n0 - 0:-", 1, 7)
        self.refused(parse_reader, "2\n0 - 0:-\n0", 1, 7)
        self.refused(parse_reader, last + "\n", 3, 0)
        self.refused(parse_reader, last + " ", 2, 7)
        stand = "\n0 - 0:-"
        self.assertEqual(len(parse_reader("1" + stand * 200)[1]), 200)
        self.refused(parse_reader, "1" + stand * 201, 200, 7)
        self.refuses(BadReader, {"word": "held", "stand": 0}, parse_reader, "1\n1 - 0:0")
        self.refuses(BadReader, {"word": "steps", "stand": 0}, parse_reader, "1\n0 - 1:-")
        self.refuses(BadReader, {"word": "steps", "stand": 1}, parse_reader, "1\n0 - 1:+\n1 0 1:1")
        self.refuses(BadReader, {"word": "points", "stand": 0}, parse_reader, "1\n0 0 0:-")

    def test_sieves(self):
        text = sieve_text(SIEVE)
        self.assertEqual(parse_sieve(text), SIEVE)
        self.refused(parse_sieve, "2\nR", 1, 0)
        self.refused(parse_sieve, "2\nL 0 1\nP", 2, 0)
        self.refused(parse_sieve, "2\nL 0 1\nR 0 0\nL", 3, 0)
        self.refused(parse_sieve, "2\nL 0 1\nL 0 1\nR 0 0\nP + -", 4, 5)
        self.refused(parse_sieve, "2\nL 0 1\nL 0 1\nR 0 0\nP + -\nR", 5, 0)
        self.refused(parse_sieve, "2\nL 0 1\nR 0 0\nP + -\nP", 3, 5)
        self.refused(parse_sieve, "2\nL 0 1\nR 0 0\nP ++", 3, 3)
        self.refused(parse_sieve, "2\nL 0 1\nR 0 0\nR 0 0\nP +-\n", 4, 4)
        self.refused(parse_sieve, "2\nL 0 100", 1, 6)
        self.refused(parse_sieve, "2\nL 0 01", 1, 5)
        self.refused(parse_sieve, "2\nL 0\n", 1, 3)
        self.refused(parse_sieve, "2\nL 0 0 0", 1, 5)
        self.refused(parse_sieve, text + "\n", 5, 5)
        one = "1\n" + "L 0\n" * 64 + "R 0\n" * 64 + "\n".join(["P " + "+" * 64] * 64)
        self.assertEqual(len(parse_sieve(one)[1]), 64)
        self.refused(parse_sieve, "1\n" + "L 0\n" * 65, 65, 0)
        self.refused(parse_sieve, "1\nL 0\n" + "R 0\n" * 65, 66, 0)
        self.refuses(BadSieve, {"word": "left"}, parse_sieve, "1\nL 1\nR 9\nP +")
        self.refuses(BadSieve, {"word": "right"}, parse_sieve, "1\nL 0\nR 9\nP +")

    def test_rules(self):
        for function in (parse_rule, parse_condition):
            self.refuses(BadRule, {"word": "form"}, function, "()")
            self.refuses(BadRule, {"word": "form"}, function, "(0)")
            self.refuses(BadRule, {"word": "form"}, function, "(() a 9 (b))")
            self.refuses(BadRule, {"word": "form"}, function, "(" * 40 + ")" * 40)
            self.refuses(BadRule, {"word": "form"}, function, "(abcdefghijkl)")
            self.refused(function, "(" * 41, 0, 40)
            self.refused(function, "(" * 40, 0, 40)
            self.refused(function, "(a (" + "(" * 39, 0, 42)
            self.refused(function, "(abcdefghijklm)", 0, 13)
            self.refused(function, "is", 0, 0)
            self.refused(function, "0", 0, 0)
            self.refused(function, "(10)", 0, 2)
            self.refused(function, "(a1)", 0, 2)
            self.refused(function, "(a )", 0, 3)
            self.refused(function, "( a)", 0, 1)
            self.refused(function, "(a  b)", 0, 3)
            self.refused(function, "(a)(b)", 0, 3)
            self.refused(function, "(a(b))", 0, 2)
            self.refused(function, "((a)b)", 0, 4)
            self.refused(function, "(a", 0, 2)
            self.refused(function, "(a)\n", 0, 3)
            self.refused(function, "(A)", 0, 1)
            self.refused(function, "(-1)", 0, 1)
        self.refuses(BadRule, {"word": "form"}, parse_rule, "(is (0))")
        self.refuses(BadRule, {"word": "form"}, parse_condition, "(only (is (0)))")
        self.refuses(BadRule, {"word": "deep"}, parse_condition, "(not " * 12 + "(is (0))" + ")" * 12)
        self.refuses(BadRule, {"word": "many"}, parse_condition, many_text())
        self.assertEqual(parse_condition("(is ())"), ("is", ()))
        self.assertIsNone(place_refused(parse_rule, "(" + " ".join(["a"] * 900) + ")"))


def many_text():
    """The text of a condition with 41 parts."""
    texts = ["(is (0))"] * 21
    while len(texts) > 1:
        texts = [
            "(and " + " ".join(texts[at:at + 2]) + ")" if at + 1 < len(texts) else texts[at]
            for at in range(0, len(texts), 2)]
    return texts[0]
