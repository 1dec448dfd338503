"""[85] to [89], with [3] and [4]: live rows, and their logs."""

from pointingreads.errors import (
    BadMark, BadName, BadNumber, BadPaper, BadPlace, BadReader, BadRow, BadText, TooGreat)
from pointingreads.live import Live
from pointingreads.logs import log_text, read_log
from pointingreads.named import reader_named
from pointingreads.rankings import all_rankings, reader_of_ranking
from tests.helpers import (
    FIRST, GREAT, LAST, NO_INTEGERS, NO_ROWS, OTHERS, SPOILT, Case, chance, chance_row, holding_reader, marks_of,
    slow_point)
from tests.texthelpers import holds_each, holds_places, log_lines

ROW = (((0, 1), 2), ((2,), 1))
NO_STAMPS = NO_INTEGERS + (0, 1, (1, "z"), (2, "a"), (True, "a"), (1, "a", "a"), [1, "a"], (1.0, "a"), (1, b"a"), ("a", 1))


def slow_forces(steps):
    found = {}
    for step in sorted(steps, key=lambda one: one[1], reverse=True):
        found[step[1]] = not any(
            other[0] == "back" and other[2] == step[1] and found.get(other[1]) for other in steps)
    return found


def slow_behind(steps, tag):
    """The tags put in behind a tag, in their order."""
    found = []
    stamps = [step[1] for step in steps if step[0] == "put" and step[2] == tag]
    for stamp in sorted(stamps, reverse=True):
        found.append(stamp)
        found.extend(slow_behind(steps, stamp))
    return found


def slow_entries(first, steps):
    """All entries of a live row, in their order: (tag, whether it is seen, mark)."""
    forces = slow_forces(steps)
    order = slow_behind(steps, None)
    for place in range(len(first)):
        order.append(place)
        order.extend(slow_behind(steps, place))
    found = []
    for tag in order:
        seen = not any(step[0] == "lost" and step[2] == tag and forces[step[1]] for step in steps)
        if isinstance(tag, int):
            mark = first[tag]
        else:
            seen = seen and forces[tag]
            mark = [step[3] for step in steps if step[1] == tag][0]
        for step in sorted(steps, key=lambda one: one[1]):
            if step[0] == "marked" and step[2] == tag and forces[step[1]]:
                mark = step[3]
        found.append((tag, seen, mark))
    return found


def chance_deed(rng, live):
    kind = rng.randrange(10)
    if kind < 4:
        live.put(rng.randint(0, live.length), rng.randrange(4))
    elif kind < 6 and live.length:
        live.lose(rng.randrange(live.length))
    elif kind < 7 and live.length:
        live.remark(rng.randrange(live.length), rng.randrange(4))
    elif live.steps:
        live.take_back(rng.choice(live.steps)[1])


def chance_copies(rng, row, deeds):
    """Copies of several holders that have taken over from one another at times."""
    copies = [Live(name, row) for name in rng.sample(("a", "b", "ab", "zzz"), rng.randint(1, 3))]
    for _ in range(deeds):
        chance_deed(rng, rng.choice(copies))
        if rng.random() < 0.2:
            rng.choice(copies).take_over(rng.choice(copies))
    return copies


class LiveTest(Case):
    def look(self, rng, live, first):
        """All that a live row tells is as the slow way has it."""
        entries = slow_entries(first, live.steps)
        seen = [entry for entry in entries if entry[1]]
        tags, marks = tuple(tag for tag, _, _ in seen), tuple(mark for _, _, mark in seen)
        self.assertEqual(live.length, len(seen))
        self.assertEqual((live.tags(0, 300), live.marks(0, 300)), (tags, marks))
        place, many = rng.randint(0, len(seen)), rng.randint(0, 5)
        self.assertEqual(live.tags(place, many), tags[place:place + many])
        self.assertEqual(live.marks(place, many), marks[place:place + many])
        self.assertEqual(sum(map(marks_of, live.parts()), ()), marks)
        for tag, is_seen, mark in entries:
            self.assertEqual(live.place_of(tag), tags.index(tag) if is_seen else None)
            self.assertEqual(live.mark_of(tag), mark)
        self.assertEqual(tuple(live.tag_at(place) for place in range(len(seen))), tags)
        forces = slow_forces(live.steps)
        self.assertEqual({stamp: live.is_in_force(stamp) for stamp in forces}, forces)
        reader = holding_reader(rng, 4, 3, 2)
        place = slow_point(reader, marks)
        self.assertEqual(live.point(reader), None if place is None else tags[place])
        self.assertEqual(list(live.steps), sorted(live.steps, key=lambda step: step[1]))
        again = read_log(log_text(live))
        self.assertEqual(again, live)
        self.assertEqual((again.holder, again.first, again.steps), (live.holder, live.first, live.steps))
        self.assertEqual((again.length, again.tags(0, 300)), (live.length, tags))

    def test_against_slow(self):
        rng = chance(571)
        for _ in range(80):
            row = chance_row(rng, 4, 3, 3, 3)
            copies = chance_copies(rng, row, rng.randint(0, 13))
            for live in copies:
                self.look(rng, live, marks_of(row))
            together = [live.twin("q") for live in copies]
            for live in together:
                for other in rng.sample(copies, len(copies)) + rng.sample(copies, len(copies)):
                    live.take_over(other)
                self.assertEqual(live, together[0])
                self.assertEqual(live.tags(0, 300), together[0].tags(0, 300))
                self.look(rng, live, marks_of(row))

    def test_deeds(self):
        live = Live("b", ROW)
        self.assertEqual((live.holder, live.first, live.steps, live.length), ("b", ROW, (), 5))
        self.assertEqual(live.put(0, 3), (1, "b"))
        self.assertEqual(live.put(1, 2), (2, "b"))
        self.assertEqual(live.put(7, 1), (3, "b"))
        self.assertEqual(live.marks(0, 300), (3, 2, 0, 1, 0, 1, 2, 1))
        self.assertEqual(live.tags(0, 300), ((1, "b"), (2, "b"), 0, 1, 2, 3, 4, (3, "b")))
        self.assertEqual(live.lose(3), (4, "b"))
        self.assertEqual(live.remark(0, 3), (5, "b"))
        self.assertEqual(live.steps, (
            ("put", (1, "b"), None, 3), ("put", (2, "b"), (1, "b"), 2), ("put", (3, "b"), 4, 1),
            ("lost", (4, "b"), 1), ("marked", (5, "b"), (1, "b"), 3)))
        self.assertEqual(live.place_of(1), None)
        self.assertEqual(live.mark_of(1), 1)
        self.assertEqual(live.take_back((4, "b")), (6, "b"))
        self.assertEqual(live.place_of(1), 3)
        self.assertEqual(live.is_in_force((4, "b")), False)
        live.take_back((6, "b"))
        self.assertEqual(live.place_of(1), None)
        self.assertEqual(live.is_in_force((4, "b")), True)
        live.take_back((7, "b"))
        self.assertEqual(live.place_of(1), 3)
        # an entry whose put step is taken back keeps what was put in behind it in its place
        live.take_back((1, "b"))
        self.assertEqual(live.marks(0, 300), (2, 0, 1, 0, 1, 2, 1))
        self.assertEqual(live.mark_of((1, "b")), 3)
        self.assertEqual(live.put(place=0, mark=0), (10, "b"))
        self.assertEqual(live.tag_at(place=0), (10, "b"))
        self.assertIsNone(live.take_over(other=live))

    def test_two_holders(self):
        one, two = Live("a", ROW), Live("b", ROW)
        one.put(1, 3)
        two.put(1, 2)
        two.put(2, 1)
        one.take_over(two)
        self.assertEqual(one.tags(0, 300), (0, (1, "b"), (2, "b"), (1, "a"), 1, 2, 3, 4))
        self.assertEqual(one.put(0, 0), (3, "a"))
        two.take_over(one)
        self.assertEqual(two, one)
        self.assertEqual(two.marks(0, 4), (0, 0, 2, 1))
        three = one.twin(holder="c")
        self.assertEqual((three.holder, three.steps, three.first), ("c", one.steps, ROW))
        three.lose(0)
        self.assertEqual((one.length, three.length), (9, 8))
        self.assertNotEqual(one, three)

    def test_facts(self):
        rng = chance(572)
        for _ in range(60):
            row = chance_row(rng, 3, 3, 3, 2)
            sorts = 4
            # copies that differ in put steps alone
            one, two = Live("a", row), Live("b", row)
            for live in (one, two):
                for _ in range(rng.randint(0, 6)):
                    live.put(rng.randint(0, live.length), rng.randrange(sorts))
            both = one.twin("c")
            both.take_over(two)
            tags = both.tags(0, 300)
            for live in (one, two):
                places = [tags.index(tag) for tag in live.tags(0, 300)]
                self.assertEqual(places, sorted(places))
            reader = reader_of_ranking(rng.choice(all_rankings(sorts)), sorts)
            points = [live.point(reader) for live in (one, two)]
            self.assertIn(both.point(reader), points if set(points) == {None} else [
                tag for tag in points if tag is not None])
            # what is put in is where it was put, and those ahead of it are where they were
            place = rng.randint(0, both.length)
            ahead = both.tags(0, place)
            stamp = both.put(place, 1)
            self.assertEqual(both.tags(0, place + 1), ahead + (stamp,))
            # a step and the back of its back
            told = both.tags(0, 300)
            both.take_back(both.take_back(stamp))
            self.assertEqual(both.tags(0, 300), told)

    def test_great_rows(self):
        row = (((0, 1), GREAT),) * 60
        live = Live("a", row)
        self.assertEqual(live.length, 120 * GREAT)
        middle = 60 * GREAT
        stamp = live.put(middle, 3)
        self.assertEqual(live.tags(middle - 1, 3), (middle - 1, stamp, middle))
        self.assertEqual(live.marks(middle - 1, 3), (1, 3, 0))
        live.lose(middle + 1)
        live.remark(0, 2)
        live.lose(live.length - 1)
        self.assertEqual(live.length, 120 * GREAT - 1)
        self.assertEqual(live.tag_at(live.length - 1), 120 * GREAT - 2)
        self.assertEqual(live.place_of(120 * GREAT - 2), 120 * GREAT - 2)
        self.assertEqual(live.place_of(120 * GREAT - 1), None)
        self.assertEqual(live.mark_of(120 * GREAT - 1), 1)
        self.assertEqual(live.mark_of(0), 2)
        self.assertEqual(live.point(reader_named("last", 4)), 120 * GREAT - 2)
        self.assertEqual(live.point(reader_named("first", 4)), 0)
        self.assertEqual(live.point(reader_of_ranking((("first", (3,)),), 4)), stamp)
        self.refuses(BadMark, {"mark": 3}, live.point, reader_named("last", 3))
        live.take_back(stamp)
        self.refuses(BadMark, {"mark": 2}, live.point, LAST)
        self.assertTrue(all(len(part) <= 60 for part in live.parts()))
        self.assertEqual(
            sum(len(marks) * times for part in live.parts() for marks, times in part), live.length)
        self.assertEqual(len(live.marks(0, 300)), 300)
        self.assertEqual(live.marks(live.length - 1, 300), (0,))
        self.assertEqual(live.tags(live.length, 300), ())
        self.assertEqual(read_log(log_text(live)), live)
        rng = chance(573)
        for _ in range(15):
            live = Live("a", row)
            for _ in range(40):
                place = rng.randrange(live.length)
                deed = rng.randrange(3)
                if deed == 0:
                    self.assertEqual(live.tag_at(place), live.lose(place) and live.steps[-1][2])
                elif deed == 1:
                    self.assertEqual(live.place_of(live.put(place, 3)), place)
                else:
                    live.remark(place, 2)
                    self.assertEqual(live.marks(place, 1), (2,))
            places = [live.place_of(live.tag_at(place)) for place in (0, live.length // 3, live.length - 1)]
            self.assertEqual(places, [0, live.length // 3, live.length - 1])

    def test_equality(self):
        live = Live("a", ROW)
        self.assertTrue(live == Live("b", ROW))
        self.assertFalse(live != Live("b", ROW))
        # rows that read alike are not equal
        self.assertFalse(live == Live("a", (((0, 1), 1), ((0, 1), 1), ((2,), 1))))
        for value in OTHERS + (0, ROW, (), "a", (ROW, ())):
            self.assertFalse(live == value)
            self.assertFalse(value == live)
            self.assertTrue(live != value)
            self.assertTrue(value != live)
        for sign in ("+", "-", "*", "<", "<=", ">", ">=", "|", "&", "//"):
            for other in ("live", "1", "()", "'a'", "None"):
                with self.assertRaises(TypeError):
                    eval("live " + sign + " " + other, {"live": live})
                with self.assertRaises(TypeError):
                    eval(other + " " + sign + " live", {"live": live})

    def test_wrong_ones(self):
        for value in ("", "A", "a b", "a" * 13, "a1") + NO_INTEGERS + (0,):
            self.refuses(BadName, {"name": value}, Live, value, None)
            self.refuses(BadName, {"name": value}, Live("a", ()).twin, value)
        for value, place in NO_ROWS[:-1]:
            self.refuses(BadRow, {"place": place}, Live, "a", value)
        live = Live("a", ROW)
        live.put(2, 3)
        live.lose(0)
        before = (live.holder, live.first, live.steps, live.length, live.tags(0, 300), log_text(live))
        for value in NO_INTEGERS + (-1, 6, GREAT):
            self.refuses(BadPlace, {"place": value}, live.put, value, None)
            self.refuses(BadPlace, {"place": value}, live.marks, value, None)
            self.refuses(BadPlace, {"place": value}, live.tags, value, None)
        for value in NO_INTEGERS + (-1, 5, GREAT):
            self.refuses(BadPlace, {"place": value}, live.lose, value)
            self.refuses(BadPlace, {"place": value}, live.remark, value, None)
            self.refuses(BadPlace, {"place": value}, live.tag_at, value)
        for value in NO_INTEGERS + (-1, 4):
            self.refuses(BadMark, {"mark": value}, live.put, 5, value)
            self.refuses(BadMark, {"mark": value}, live.remark, 4, value)
        for value in NO_INTEGERS + (-1, 301):
            self.refuses(BadNumber, {"value": value}, live.marks, 5, value)
            self.refuses(BadNumber, {"value": value}, live.tags, 0, value)
        for value in NO_STAMPS:
            if value != (2, "a"):
                self.refuses(BadNumber, {"value": value}, live.take_back, value)
                self.refuses(BadNumber, {"value": value}, live.is_in_force, value)
        for value in NO_INTEGERS + (-1, 5, (2, "a"), (True, "a"), [1, "a"], (1, "b")):
            self.refuses(BadName, {"name": value}, live.place_of, value)
            self.refuses(BadName, {"name": value}, live.mark_of, value)
        for value, (word, stand) in SPOILT:
            self.refuses(BadReader, {"word": word, "stand": stand}, live.point, value)
        self.refuses(BadMark, {"mark": 3}, live.point, FIRST)
        for value in OTHERS + (0, ROW, "a"):
            self.refuses(BadPaper, {"word": "live"}, live.take_over, value)
            self.refuses(BadPaper, {"word": "live"}, log_text, value)
        other = Live("b", (((0, 1), 1), ((0, 1), 1), ((2,), 1)))
        self.refuses(BadPaper, {"word": "first"}, live.take_over, other)
        other = Live("a", ROW)
        other.put(3, 3)
        self.refuses(BadPaper, {"word": "stamp"}, live.take_over, other)
        self.assertEqual(before, (
            live.holder, live.first, live.steps, live.length, live.tags(0, 300), log_text(live)))

    def test_forty_steps(self):
        live = Live("a", ROW)
        for number in range(40):
            self.assertEqual(live.put(number, 0), (number + 1, "a"))
        told = log_text(live)
        for deed, rest in ((live.put, (0, 0)), (live.lose, (0,)), (live.remark, (0, 0)), (live.take_back, ((1, "a"),))):
            self.refuses(TooGreat, {"most": 40}, deed, *rest)
        self.refuses(BadPlace, {"place": 46}, live.put, 46, 0)
        self.refuses(BadNumber, {"value": (41, "a")}, live.take_back, (41, "a"))
        other = Live("b", ROW)
        other.lose(0)
        self.refuses(TooGreat, {"most": 40}, live.take_over, other)
        self.refuses(TooGreat, {"most": 40}, other.take_over, live)
        self.assertEqual((log_text(live), len(other.steps)), (told, 1))
        live.take_over(live.twin("c"))
        self.assertEqual(log_text(live), told)
        # unlike steps come ahead of too many
        other = Live("a", ROW)
        other.lose(0)
        self.refuses(BadPaper, {"word": "stamp"}, live.take_over, other)
        # twenty and twenty, and one more
        one, two = Live("a", ROW), Live("b", ROW)
        for _ in range(20):
            one.put(0, 1)
            two.put(0, 2)
        one.take_over(two)
        self.assertEqual(len(one.steps), 40)
        self.assertEqual(one.marks(0, 40), (2, 1) * 20)

    def test_the_greatest_count(self):
        live = read_log("a\n01\nput 999998 zz - 0")
        self.assertEqual(live.put(0, 1), (999999, "a"))
        for deed, rest in ((live.put, (0, 0)), (live.lose, (0,)), (live.remark, (0, 0)), (live.take_back, ((999999, "a"),))):
            self.refuses(TooGreat, {"most": 999999}, deed, *rest)
        self.refuses(BadMark, {"mark": 4}, live.put, 0, 4)
        self.assertEqual(live.length, 4)
        full = read_log("a\n01\n" + "\n".join("put " + str(999960 + number) + " a - 0" for number in range(40)))
        self.assertEqual(full.steps[-1][1], (999999, "a"))
        self.refuses(TooGreat, {"most": 40}, full.put, 0, 0)


class LogsTest(Case):
    def test_texts(self):
        live = Live("ab", (((0, 1, 1), 3), ((2,), 1)))
        self.assertEqual(log_text(live), "ab\n011*3 2")
        live.put(0, 3)
        live.put(1, 2)
        live.put(5, 0)
        live.lose(2)
        live.remark(0, 1)
        live.take_back((4, "ab"))
        self.assertEqual(log_text(live), (
            "ab\n011*3 2\nput 1 ab - 3\nput 2 ab 1.ab 2\nput 3 ab 2 0\nlost 4 ab 0\nmarked 5 ab 1.ab 1\nback 6 ab 4.ab"))
        self.assertEqual(read_log(log_text(live)), live)
        self.assertEqual(log_text(Live("z", ())), "z\n-")
        self.assertEqual(read_log("z\n-").length, 0)

    def test_places(self):
        holds_places(self, chance(574), read_log, log_lines, 20)
        holds_each(self, read_log, "ab\n01*3 2\nput 1 ab - 3\nlost 2 b 10\nback 13 c 1.ab\nmarked 14 b 1.ab 0")
        for value in NO_INTEGERS + (0, b"a\n-"):
            if type(value) is not str:
                self.refuses(BadText, {"line": None, "column": None}, read_log, value)

    def test_refused_texts(self):
        for text, line, column in (
                ("", 0, 0), ("a", 0, 1), ("a\n", 1, 0), ("a" * 13, 0, 12), ("a\n0\n", 2, 0), ("a\n0\nlast", 2, 1),
                ("a\n0\nput 0 a", 2, 4), ("a\n0\nput 1234567", 2, 10), ("a\n0\nput 1 a 0", 2, 9),
                ("a\n0\nput 1 a -", 2, 9), ("a\n0\nput 1 a - 4", 2, 10), ("a\n0\nput 1 a 01 0", 2, 9),
                ("a\n0\nput 1 a 0.a 0", 2, 9), ("a\n0\nlost 1 a -", 2, 9), ("a\n0\nlost 1 a 0 0", 2, 10),
                ("a\n0\nmarked 1 a - 0", 2, 11), ("a\n0\nback 1 a 1", 2, 10), ("a\n0\nback 1 a 1 0", 2, 10),
                ("a\n0\nlost 1 a 1234567.a", 2, 16), ("a\n0\nback 1 a 1234567.a", 2, 15), ("a\n0\nlost 1 a 1.", 2, 11),
                ("a\n0\nlost 1 a " + "1" * 36, 2, 44), ("a\n0\nlost 1 a 1." + "a" * 13, 2, 23),
                ("a\n0\n" + "lost 1 a 0\n" * 40, 41, 10), ("a\n0\n" + "lost 1 a 0\n" * 41, 41, 10)):
            self.refuses(BadText, {"line": line, "column": column}, read_log, text)

    def test_things_that_are_none(self):
        self.refuses(BadRow, {"place": 1}, read_log, "a\n0 0*" + "9" * 31 + "\nlost 1 a 9")
        self.refuses(BadRow, {"place": 0}, read_log, "a\n0*" + "9" * 31 + "\nlost 1 a 1.a")
        for number, lines in (
                (0, ["lost 1 a 2"]), (0, ["lost 1 a 1.a"]), (0, ["back 2 a 1.a"]), (0, ["put 1 a 2 0"]),
                (0, ["lost 1 a " + "9" * 35]), (1, ["lost 1 a 0", "lost 1 a 0"]), (1, ["lost 2 a 0", "lost 1 b 0"]),
                (1, ["lost 1 b 0", "lost 1 a 0"]), (1, ["lost 1 a 0", "lost 2 a 1.a"]),
                (1, ["lost 1 a 0", "marked 2 a 1.a 0"]), (1, ["lost 1 a 0", "put 2 a 1.a 0"]),
                (1, ["put 1 a - 0", "put 1 b 1.a 0"]), (1, ["put 1 a - 0", "back 1 b 1.a"]),
                (2, ["put 1 a - 0", "lost 2 a 1.a", "lost 3 a 1.b"]), (1, ["put 1 a - 0", "back 2 a 2.a"]),
                (1, ["put 1 a - 0", "back 2 a 3.a", "put 3 a - 0"]), (0, ["put 1 a 2.b 0", "put 2 b - 0"])):
            self.refuses(BadNumber, {"value": number}, read_log, "\n".join(["a", "01"] + lines))
        for lines in (
                ["lost 1 a 1", "lost 1 b 1", "lost 2 a 1"], ["put 1 a - 0", "put 1 b - 0", "lost 2 a 1.b", "back 3 a 2.a"],
                ["lost 1 z 1", "back 2 y 1.z", "back 3 x 1.z", "back 4 x 2.y"]):
            text = "\n".join(["a", "01"] + lines)
            self.assertEqual(log_text(read_log(text)), text)
        self.assertEqual(read_log("a\n0*1" + "0" * 30 + "\nlost 1 a 9").length, GREAT - 1)
        self.refuses(BadNumber, {"value": 0}, read_log, "a\n0*3\nlost 1 a 3")
