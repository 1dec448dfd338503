"""[42], [44], [15]: relations and views of two points."""

import unittest

from pointingreads.errors import BadName
from pointingreads.named import reader_named
from pointingreads.relations import (
    RELATIONS, is_always, relation_in, relation_row, relations, row_against)
from pointingreads.views import view_in, view_row, views
from tests.helpers import (
    FIRST, GREAT, LAST, OTHERS, Case, as_row, chance, chance_pair, chance_row, marks_of, slow_relation,
    slow_view, words)

DEEP = {1: 14, 2: 7, 3: 5, 4: 4}


class RelationsTest(Case):
    def test_against_slow(self):
        rng = chance(321)
        seen = set()
        for _ in range(250):
            reader, other = chance_pair(rng, 4, 5, 3)
            deep = DEEP[reader[0]]
            first = {}
            for word in words(reader[0], deep):
                first.setdefault(slow_relation(reader, other, word), word)
            found = relations(reader, other)
            seen.add(found)
            self.assertEqual(found, tuple(word for word in RELATIONS if word in found))
            for name in RELATIONS:
                word = relation_row(reader, other, name)
                self.assertEqual(word is not None, name in found)
                if name in first or word is None:
                    self.assertEqual(word, first.get(name))
                else:
                    self.assertGreater(len(word), deep)
                    self.assertEqual(slow_relation(reader, other, word), name)
            wanted = tuple(rng.choice(RELATIONS) for _ in range(rng.randint(0, 6)))
            rows = [relation_row(reader, other, name) for name in found if name not in wanted]
            least = min(rows, key=lambda word: (len(word), word), default=None)
            self.assertEqual(row_against(reader, other, wanted), least)
            self.assertIs(is_always(reader, other, wanted), least is None)
        self.assertGreater(len(seen), 10)

    def test_views_against_slow(self):
        rng = chance(322)
        for _ in range(150):
            reader, other = chance_pair(rng, 4, 4, 3)
            deep = DEEP[reader[0]]
            first = {}
            for word in words(reader[0], deep):
                first.setdefault(slow_view(reader, other, word), word)
            found = views(reader, other)
            self.assertEqual(sorted(found, key=lambda view: (
                RELATIONS.index(view[0]), tuple(-1 if mark is None else mark for mark in view[1:]))), list(found))
            self.assertEqual(tuple(word for word in RELATIONS if word in {view[0] for view in found}),
                             relations(reader, other))
            self.assertEqual(set(first) - set(found), set())
            for view in found:
                word = view_row(reader, other, view)
                self.assertEqual(slow_view(reader, other, word), view)
                if view in first:
                    self.assertEqual(word, first[view])
                else:
                    self.assertGreater(len(word), deep)
            for view in (("first", 0, None), ("same", 0, 0), ("ahead", 0, 0)):
                self.assertEqual(view_row(reader, other, view) is None, view not in found)

    def test_in_rows(self):
        rng = chance(323)
        for _ in range(200):
            reader, other = chance_pair(rng, 4, 6, 4)
            row = chance_row(rng, reader[0], 4, 4, 6)
            self.assertEqual(relation_in(reader, other, row), slow_relation(reader, other, marks_of(row)))
            self.assertEqual(view_in(reader, other, row), slow_view(reader, other, marks_of(row)))
        row = (((1, 1), GREAT), ((0, 1), GREAT), ((0,), GREAT))
        self.assertEqual(relation_in(FIRST, LAST, row), "ahead")
        self.assertEqual(view_in(LAST, FIRST, row), ("behind", 0, 0))
        self.assertEqual(view_in(FIRST, LAST, (((1,), GREAT),)), ("second", None, 1))
        self.assertEqual(view_in(FIRST, FIRST, ()), ("none", None, None))

    def test_named_readers(self):
        last, second = reader_named("last", 3), reader_named("second", 3)
        self.assertEqual(relations(last, second), ("none", "first", "same", "behind"))
        self.assertEqual(relation_row(last, second, "behind"), (0, 0, 0))
        self.assertEqual(relation_row(second, last, "ahead"), (0, 0, 0))
        self.assertIsNone(relation_row(last, second, "ahead"))
        self.assertEqual(view_row(last, second, ("behind", 2, 1)), (0, 1, 2))
        self.assertEqual(views(last, reader_named("none", 3)), (
            ("none", None, None), ("first", 0, None), ("first", 1, None), ("first", 2, None)))
        self.assertEqual(views(reader_named("first", 2), reader_named("first", 2)), (
            ("none", None, None), ("same", 0, 0), ("same", 1, 1)))
        self.assertEqual(row_against(FIRST, LAST, ()), ())
        self.assertEqual(row_against(FIRST, LAST, ("none",)), (0,))
        self.assertEqual(row_against(FIRST, LAST, ("none", "same")), (1,))
        self.assertEqual(row_against(FIRST, LAST, ("none", "same", "second")), (0, 0))
        self.assertIs(is_always(FIRST, LAST, ("none", "same", "second", "ahead")), True)
        self.assertIs(is_always(FIRST, LAST, ("same",) * 6), False)

    def test_late_relations(self):
        # both go round, and point at none but once
        def waiting(stands):
            steps = tuple((((stand + 1) % stands, (0,) if 0 < stand < stands - 1 else (-1,) if stand == 0 else ()),)
                          for stand in range(stands))
            return (1, (0,) + (1,) * (stands - 1), steps, (-1,) * (stands - 1) + (0,))
        for many, other_many in ((7, 9), (199, 200)):
            one, two = waiting(many), waiting(other_many)
            word = relation_row(one, two, "behind")
            self.assertEqual(slow_relation(one, two, word), "behind")
            self.assertEqual(len(word), many * other_many - 1)
            self.assertIsNone(relation_row(one, two, "same"))

    def test_errors(self):
        self.refuses_two(relation_in, ())
        self.refuses_two(relations)
        self.refuses_two(relation_row, "none")
        self.refuses_two(is_always, ())
        self.refuses_two(row_against, ())
        self.refuses_two(view_in, ())
        self.refuses_two(views)
        self.refuses_two(view_row, ("none", None, None))
        self.refuses_rows(relation_in, FIRST, LAST)
        self.refuses_rows(view_in, FIRST, LAST)
        for word in OTHERS + (0, (), "None", "first ", b"none", ("none",)):
            self.refuses(BadName, {"name": word}, relation_row, FIRST, LAST, word)
            for function in (is_always, row_against):
                self.refuses(BadName, {"name": word}, function, FIRST, LAST, ("none", word, None))
                if word.__class__ is not tuple:
                    self.refuses(BadName, {"name": None}, function, FIRST, LAST, word)
        for function in (is_always, row_against):
            self.refuses(BadName, {"name": None}, function, FIRST, LAST, ("none",) * 7)
            self.refuses(BadName, {"name": None}, function, FIRST, LAST, ["none"])
        for view in OTHERS + (
                0, (), "none", ("none",), ("none", None), ("none", None, None, None), ("none", 0, None),
                ("none", None, 0), ("first", None, None), ("first", None, 0), ("first", 0, 0), ("first", 2, None),
                ("second", 0, None), ("second", None, 2), ("same", 0, 1), ("same", 0, None), ("same", 2, 2),
                ("ahead", 0, 2), ("ahead", 2, 0), ("ahead", 0, None), ("behind", None, 1), ("behind", True, 1),
                ("same", False, False), ("same", 0, False), ("ahead", -1, 0), ("other", 0, 0), (None, 0, 0),
                ["same", 0, 0], ("same", "0", "0"), ("same", (0,), (0,))):
            self.refuses(BadName, {"name": view}, view_row, FIRST, LAST, view)
        self.assertEqual(view_in(FIRST, LAST, as_row((0, 1))), ("ahead", 0, 1))


if __name__ == "__main__":
    unittest.main()
