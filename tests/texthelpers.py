"""Texts that can be read, made by the words of the document alone, and the places of what can't be read."""

import itertools

from pointingreads.errors import BadText, ReadError

SIGNS = " -*+:.()\n0123456789abcdefghijklmnopqrstuvwxyzLRPA~\""
VERDICTS = {
    "points": "NNP", "apart": "NNN", "alike": "NN", "steady": "N", "looker": "N", "picks": "NNI", "does": "NN",
    "stand": "NNN", "same": "NN", "reads": "NN", "joins": "NNN"}


def some(rng, signs, least, most):
    return "".join(rng.choice(signs) for _ in range(rng.randint(least, most)))


def name(rng):
    return some(rng, "abz", 1, 4)


def whole(rng, most):
    return rng.choice("0123456789") if most == 1 or rng.random() < 0.5 else count(rng, most)


def count(rng, most):
    return rng.choice("123456789") + some(rng, "0123456789", 0, most - 1)


def row_line(rng, most=4):
    if rng.random() < 0.1:
        return "-"
    return " ".join(
        some(rng, "0123", 1, 4) + ("*" + count(rng, 4) if rng.random() < 0.5 else "")
        for _ in range(rng.randint(1, most)))


def reader_lines(rng):
    sorts = rng.randint(1, 4)
    lines = [str(sorts)]
    for _ in range(rng.randint(1, 3)):
        items = [rng.choice("012345678"), rng.choice("-01234567")]
        for _ in range(sorts):
            items.append(whole(rng, 3) + ":" + ("-" if rng.random() < 0.3 else some(rng, "+01234567", 1, 8)))
        lines.append(" ".join(items))
    return "\n".join(lines)


def sieve_lines(rng):
    sorts, lefts, rights = rng.randint(1, 4), rng.randint(1, 3), rng.randint(1, 3)
    lines = [str(sorts)]
    for letter, many in (("L", lefts), ("R", rights)):
        lines.extend(" ".join([letter] + [whole(rng, 2) for _ in range(sorts)]) for _ in range(many))
    lines.extend(
        " ".join(["P"] + [some(rng, "+-", rights, rights) for _ in range(sorts)]) for _ in range(lefts))
    return "\n".join(lines)


def rule_line(rng, deep=3):
    things = []
    for _ in range(rng.randint(0, 3)):
        kind = rng.randrange(3)
        if kind == 0 and deep:
            things.append(rule_line(rng, deep - 1))
        else:
            things.append(name(rng) if kind == 1 else rng.choice("0123456789"))
    return "(" + " ".join(things) + ")"


def log_lines(rng):
    lines = [name(rng), row_line(rng, 2)]
    for _ in range(rng.randint(0, 3)):
        kind = rng.choice(("put", "lost", "marked", "back"))
        stamp = count(rng, 6) + "." + name(rng)
        tag = rng.choice((stamp, whole(rng, 5)))
        items = [kind, count(rng, 6), name(rng), stamp if kind == "back" else tag]
        if kind == "put" and rng.random() < 0.3:
            items[3] = "-"
        if kind in ("put", "marked"):
            items.append(rng.choice("0123"))
        lines.append(" ".join(items))
    return "\n".join(lines)


def sheet_lines(rng):
    lines = []
    for _ in range(rng.randint(0, 3)):
        kind = rng.choice(("row", "reader", "sieve", "rule", "live"))
        text = {"row": row_line, "reader": reader_lines, "sieve": sieve_lines, "rule": rule_line, "live": log_lines}
        lines.append(kind + " " + name(rng))
        lines.extend("- " + line for line in text[kind](rng).split("\n"))
    for _ in range(rng.randint(1, 3)):
        kind = rng.choice(sorted(VERDICTS))
        items = [kind]
        for item in VERDICTS[kind]:
            number = whole(rng, 40)
            items.append({"N": name(rng), "I": number, "P": rng.choice((number, "-"))}[item])
        lines.append(" ".join(items))
    return "\n".join(lines)


def place_refused(function, text):
    """Where the text can't be read, as a number; None if it can be, whether it tells a right thing or not."""
    try:
        function(text)
    except BadText as error:
        lines = text.split("\n")
        return sum(len(line) + 1 for line in lines[:error.line]) + error.column
    except ReadError:
        return None
    return None


def spoilt(rng, text):
    """The text with a character left out, doubled, put in or exchanged."""
    at = rng.randrange(len(text) + 1)
    sign = rng.choice(SIGNS)
    return rng.choice((
        text[:at] + text[at + 1:], text[:at] + text[at:at + 1] * 2 + text[at + 1:], text[:at] + sign + text[at:],
        text[:at] + sign + text[at + 1:]))


def holds_places(case, rng, function, make, times):
    """Told places are right: what is ahead of them goes on to a text that can be read, nothing else does."""
    case.assertEqual(place_refused(function, ""), 0)
    for _ in range(times):
        text = make(rng)
        case.assertIsNone(place_refused(function, text), text)
        for cut in range(len(text)):
            # each beginning goes on to a text that can be read, so only its end can be wrong
            case.assertIn(place_refused(function, text[:cut]), (None, cut), text[:cut])
        for _ in range(12):
            other = spoilt(rng, text)
            place = place_refused(function, other)
            if place is None:
                continue
            case.assertLessEqual(place, len(other))
            case.assertIn(place_refused(function, other[:place]), (None, place))
            for more in ("", "0", "a", ")", "\n", " 0", "-"):
                if place < len(other):
                    case.assertEqual(place_refused(function, other[:place + 1] + more), place, other)
            goes_on(case, rng, function, other[:place])


def goes_on(case, rng, function, text):
    """Some text that can be read begins with this one."""
    for _ in range(120):
        if place_refused(function, text) is None:
            return
        signs = [
            sign for sign in SIGNS if place_refused(function, text + sign) in (None, len(text) + 1)]
        case.assertTrue(signs, text)
        text = text + rng.choice([sign for sign in signs if sign == ")"] or [
            sign for sign in signs if sign not in "( "] or signs)


def holds_all(case, function, can_be_read, signs, looked, most):
    """Told places are right for all texts of some signs, as long as looked tells.

    What goes on to a text that can be read goes on to one of at most so many signs.
    """
    beginnings = set()
    for many in range(most + 1):
        for text in itertools.product(signs, repeat=many):
            text = "".join(text)
            if can_be_read(text):
                beginnings.update(text[:cut] for cut in range(many + 1))
    for many in range(looked + 1):
        for text in itertools.product(signs, repeat=many):
            text = "".join(text)
            place = 0
            while place < many and text[:place + 1] in beginnings:
                place += 1
            case.assertEqual(place_refused(function, text), None if can_be_read(text) else place, text)


def holds_each(case, function, text):
    """A character left out, doubled, put in or exchanged at each place of a text is refused at a right place."""
    case.assertIsNone(place_refused(function, text))
    for at in range(len(text) + 1):
        for sign in SIGNS:
            for other in (
                    text[:at] + text[at + 1:], text[:at] + text[at:at + 1] + text[at:], text[:at] + sign + text[at:],
                    text[:at] + sign + text[at + 1:]):
                place = place_refused(function, other)
                if place is not None:
                    # what is ahead of the spoilt place is right
                    case.assertLessEqual(at, place)
                    case.assertIn(place_refused(function, other[:place]), (None, place))
                    case.assertEqual(place_refused(function, other[:place + 1]), place)
