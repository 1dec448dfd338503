"""Over the whole program: what is told of one row in several ways is the same ([0], [61], [66], [80], [87])."""

from pointingreads.critical import is_critical, marked_sieve
from pointingreads.ends import candidates, ends
from pointingreads.errors import TooGreat
from pointingreads.forcing import forced_in
from pointingreads.least import least_reader
from pointingreads.live import Live
from pointingreads.logs import log_text, read_log
from pointingreads.lookers import first_pick, last_pick, looker_of, reader_of
from pointingreads.meant import reader_meant, sieve_meant
from pointingreads.nearest import fewest_to
from pointingreads.ordering import order_at
from pointingreads.parsing import parse_reader, parse_row, parse_rule, parse_sieve
from pointingreads.picking import is_picked, pick_at, pick_number
from pointingreads.rankings import all_rankings, ranking_point, reader_of_ranking
from pointingreads.reading import end_point, first_reading, go_on, mark_pointed, point
from pointingreads.rules import rule_point
from pointingreads.rows import mark_at
from pointingreads.settled import is_settled, settling
from pointingreads.sheets import judged
from pointingreads.summaries import summary, summary_point
from pointingreads.texts import reader_text, row_text, rule_text, sieve_text
from pointingreads.weaves import latter, mirrored, reader_else, reader_where, renamed
from pointingreads.within import part_ahead
from tests.helpers import Case, chance, chance_condition, chance_reader, chance_row, chance_rule, holding_reader


class WholeTest(Case):
    def points_told(self, reader, row):
        """All points that are told of a row for a reader, in several ways."""
        told = [point(reader, row)]
        told.append(point(least_reader(reader), row))
        told.append(end_point(reader, go_on(reader, first_reading(reader), row)))
        told.append(summary_point(reader, summary(reader, row)))
        told.append(point(parse_reader(reader_text(reader)), parse_row(row_text(row))))
        told.append([end for end, word in ends(reader, row) if word == ()][0])
        for other in (
                lambda: reader_else(reader, reader), lambda: reader_where(reader, reader),
                lambda: latter(reader, least_reader(reader)), lambda: mirrored(mirrored(reader)),
                lambda: renamed(reader, tuple(range(reader[0])))):
            try:
                told.append(point(other(), row))
            except TooGreat:
                continue
        live = Live("a", row)
        told.append(live.point(reader))
        stamp = live.put(0, 0)
        live.take_back(stamp)
        told.append(read_log(log_text(live)).point(reader))
        try:
            looker = looker_of(reader)
        except TooGreat:
            return told
        told.append(pick_at(looker, row, 0))
        told.append(point(reader_of(looker), row))
        told.append(point(first_pick(parse_sieve(sieve_text(looker))), row))
        return told

    def test_readers(self):
        rng = chance(591)
        for _ in range(80):
            sorts = rng.randint(1, 4)
            reader = rng.choice((chance_reader, holding_reader))(rng, sorts, rng.randint(1, 5), 2)
            row = chance_row(rng, sorts, 5, 4, rng.choice((2, 10 ** 30)))
            told = self.points_told(reader, row)
            self.assertEqual(len(set(told)), 1, told)
            place = told[0]
            if place is not None:
                self.assertIn(place, candidates(reader, row))
                self.assertTrue(is_critical(reader, row, place))
                self.assertTrue(is_picked(marked_sieve(reader, mark_at(row, place)), row, place))
                self.assertEqual(mark_at(row, place), mark_pointed(reader, row))
            if is_settled(reader, row):
                self.assertEqual(forced_in(reader, row, place, 0), 0)
                self.assertEqual(settling(reader, row), ())
            lines = ["reader r"] + ["- " + line for line in reader_text(reader).split("\n")]
            lines += ["row u", "- " + row_text(row), "points r u " + ("-" if place is None else str(place)), "apart r r u"]
            self.assertEqual(judged("\n".join(lines)), (True, False))

    def test_rankings(self):
        rng = chance(592)
        for _ in range(60):
            ranking = rng.choice(all_rankings(3))
            reader = reader_of_ranking(ranking, 3)
            row = chance_row(rng, 3, 5, 4, rng.choice((2, 10 ** 30)))
            told = self.points_told(reader, row) + [ranking_point(ranking, row), order_at(reader, row, 0)]
            self.assertEqual(len(set(told)), 1, told)

    def test_rules(self):
        rng = chance(593)
        for _ in range(80):
            rule = chance_rule(rng, rng.randint(0, 1), 1, 3)
            row = chance_row(rng, 2, 4, 4, 4)
            place = rule_point(rule, row)
            try:
                reader = reader_meant(rule, 2)
            except TooGreat:
                continue
            self.assertEqual(parse_rule(rule_text(rule)), rule)
            self.assertEqual(set(self.points_told(reader, row)), {place})
            if place is not None:
                self.assertEqual(fewest_to(reader, row, place), 0)

    def test_conditions(self):
        rng = chance(594)
        for _ in range(60):
            condition = chance_condition(rng, 2, 3)
            row = chance_row(rng, 2, 4, 4, 10 ** 30)
            sieve = sieve_meant(condition, 2)
            many = pick_number(sieve, row)
            for number in (1, 2):
                for end in ("front", "end"):
                    try:
                        reader = reader_meant(("pick", end, number, condition), 2)
                    except TooGreat:
                        continue
                    place = point(reader, row)
                    self.assertEqual(
                        place, None if many < number else pick_at(
                            sieve, row, number - 1 if end == "front" else many - number))
            only = reader_meant(("only", condition), 2)
            self.assertEqual(point(only, row), pick_at(sieve, row, 0) if many == 1 else None)
            try:
                self.assertEqual(first_pick(sieve), reader_meant(("pick", "front", 1, condition), 2))
                last = last_pick(sieve)
            except TooGreat:
                continue
            self.assertEqual(last, reader_meant(("pick", "end", 1, condition), 2))
            try:
                second = reader_meant(("pick", "end", 2, ("or", condition, ("not", condition))), 2)
                self.assertEqual(part_ahead(reader_meant(("pick", "end", 1, ("is", (0, 1))), 2), reader_meant(
                    ("pick", "end", 1, ("is", (0, 1))), 2)), second)
            except TooGreat:
                continue
