"""[52]: readers numbered in another way, and renamings."""

import itertools
import unittest

from pointingreads.errors import BadPaper, BadReader
from pointingreads.likes import are_alike
from pointingreads.named import reader_named
from pointingreads.readers import is_reader, met_stands
from pointingreads.renumbered import renaming, renumbered
from tests.helpers import FIRST, LAST, OTHERS, Case, chance, chance_reader, holding_reader


def is_renaming(reader, other, told):
    """Whether a value is the renaming, by its words."""
    stands, hands = told
    met, other_met = met_stands(reader), met_stands(other)
    if len(stands) != len(met) or sorted(stands) != sorted(other_met):
        return False
    goes = {stand: (image, over) for stand, image, over in zip(met, stands, hands)}
    for stand in met:
        image, over = goes[stand]
        if sorted(over) != list(range(reader[1][stand])) or other[1][image] != reader[1][stand]:
            return False
        point = reader[3][stand]
        if other[3][image] != (-1 if point < 0 else over[point]):
            return False
        for (there, keep), (other_there, other_keep) in zip(reader[2][stand], other[2][image]):
            behind, over_there = goes[there]
            if behind != other_there:
                return False
            for hand, kept in enumerate(keep):
                if other_keep[over_there[hand]] != (-1 if kept < 0 else over[kept]):
                    return False
    return True


def slow_renaming(reader, other):
    """Any renaming that there is, by trying all maps of small readers."""
    met, other_met = met_stands(reader), met_stands(other)
    if len(met) != len(other_met):
        return None
    for stands in itertools.permutations(other_met):
        if any(reader[1][one] != other[1][two] for one, two in zip(met, stands)):
            continue
        for hands in itertools.product(*[itertools.permutations(range(reader[1][stand])) for stand in met]):
            if stands[0] == 0 and is_renaming(reader, other, (stands, hands)):
                return (stands, hands)
    return None


class RenumberedTest(Case):
    def test_there_and_back(self):
        rng = chance(371)
        for _ in range(200):
            make = rng.choice((chance_reader, holding_reader))
            reader = make(rng, rng.randint(1, 4), rng.randint(1, 8), rng.randint(1, 5))
            many = len(reader[1])
            order = (0,) + tuple(rng.sample(range(1, many), many - 1))
            hands = tuple(tuple(rng.sample(range(held), held)) for held in reader[1])
            found = renumbered(reader, order, hands)
            self.assertIs(is_reader(found), True)
            self.assertIs(are_alike(reader, found), True)
            for stand, old in enumerate(order):
                self.assertEqual(found[1][stand], reader[1][old])
                for (to, keep), (old_to, old_keep) in zip(found[2][stand], reader[2][old]):
                    self.assertEqual(order[to], old_to)
                    for hand, kept in enumerate(keep):
                        self.assertEqual(
                            -1 if kept < 0 else hands[old][kept], old_keep[hands[old_to][hand]])
            told = renaming(reader, found)
            met = met_stands(reader)
            self.assertEqual(told, (
                tuple(order.index(stand) for stand in met),
                tuple(tuple(hands[stand].index(hand) for hand in range(reader[1][stand])) for stand in met)))
            back = renaming(found, reader)
            self.assertIs(is_renaming(found, reader, back), True)
            same = tuple(tuple(range(held)) for held in reader[1])
            self.assertEqual(renumbered(reader, tuple(range(many)), same), reader)

    def test_renamings_against_slow(self):
        rng = chance(372)
        some = none = 0
        for _ in range(400):
            sorts = rng.randint(1, 2)
            reader, other = [rng.choice((chance_reader, holding_reader))(rng, sorts, rng.randint(1, 3), 2) for _ in range(2)]
            if rng.random() < 0.5:
                many = len(reader[1])
                order = (0,) + tuple(rng.sample(range(1, many), many - 1))
                hands = tuple(tuple(rng.sample(range(held), held)) for held in reader[1])
                other = renumbered(reader, order, hands)
                if rng.random() < 0.5:
                    stand = rng.randrange(many)
                    points = list(other[3])
                    points[stand] = rng.randint(-1, other[1][stand] - 1)
                    other = other[:3] + (tuple(points),)
            found = renaming(reader, other)
            self.assertEqual(found, slow_renaming(reader, other))
            some += found is not None
            none += found is None
        self.assertGreater(some, 100)
        self.assertGreater(none, 100)

    def test_stands_that_are_not_met(self):
        more = (2, (0, 1, 3), FIRST[2] + (((2, (2, 1, 0)), (0, ())),), (-1, 0, 2))
        self.assertEqual(renaming(FIRST, more), ((0, 1), ((), (0,))))
        self.assertEqual(renaming(more, FIRST), ((0, 1), ((), (0,))))
        turned = renumbered(more, (0, 2, 1), ((), (0,), (1, 2, 0)))
        self.assertEqual(turned, (2, (0, 3, 1), (
            ((2, (-1,)), (0, ())), ((1, (0, 2, 1)), (0, ())), ((2, (0,)), (2, (0,)))), (-1, 1, 0)))
        self.assertEqual(renaming(FIRST, turned), ((0, 2), ((), (0,))))

    def test_no_renaming(self):
        # alike, but one has more stands, or more hands
        double = (2, (0, 1, 1), (FIRST[2][0], ((2, (0,)), (1, (0,))), ((1, (0,)), (2, (0,)))), (-1, 0, 0))
        self.assertIsNone(renaming(FIRST, double))
        self.assertIsNone(renaming(double, FIRST))
        self.assertIs(are_alike(double, FIRST), True)
        self.assertEqual(renaming(double, double), ((0, 1, 2), ((), (0,), (0,))))
        self.assertIsNone(renaming(FIRST, LAST))
        holds = (1, (0, 1), (((1, (-1,)),), ((1, (0,)),)), (-1, -1))
        self.assertIsNone(renaming(holds, reader_named("none", 1)))
        self.assertIsNone(renaming(reader_named("none", 1), holds))
        self.assertIsNone(renaming(holds, reader_named("first", 1)))

    def test_errors(self):
        self.refuses_two(renaming)
        self.refuses_readers(renumbered, (0, 1), ((), (0,)))
        self.assertEqual(renumbered(FIRST, (0, 1), ((), (0,))), FIRST)
        for order in OTHERS + (0, (), (0,), (1, 0), (0, 0), (0, 2), (0, 1, 2), [0, 1], (0, True), (False, 1), (0, -1)):
            for hands in (((), (0,)), None):
                self.refuses(BadPaper, {"word": "order"}, renumbered, FIRST, order, hands)
        for hands in OTHERS + (
                0, (), ((),), ((), (0,), ()), [(), (0,)], ((), [0]), ((), ()), ((), (1,)), ((), (0, 1)), ((0,), (0,)),
                ((), (False,)), (None, (0,)), ((), (-1,)), ((), None)):
            self.refuses(BadPaper, {"word": "hands"}, renumbered, FIRST, (0, 1), hands)
        two = (1, (0, 1, 2), (((1, (-1,)),), ((2, (0, -1)),), ((2, (0, 1)),)), (-1, 0, 1))
        self.refuses(BadPaper, {"word": "hands"}, renumbered, two, (0, 1, 2), ((), (0,), (0, 0)))
        self.refuses(BadPaper, {"word": "hands"}, renumbered, two, (0, 2, 1), ((), (0, 1), (0,)))
        self.refuses(BadReader, {"word": "form", "stand": None}, renaming, FIRST, None)


if __name__ == "__main__":
    unittest.main()
