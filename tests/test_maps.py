"""[23]: joins that are made, and maps; of [2] when a map rises; of [3] generators."""

import inspect
import unittest
from itertools import combinations, islice, product

from factflows.joins import Joins, all_joins, chain_joins, first_fall, first_loss, rising_maps, union_joins
from tests.helper import Dice, fork, is_under, some_rising, some_rows, spoil, stays
from tests.test_joins import slow_bad_join


def slow_first_fall(rows, values):
    for low, high in product(range(len(rows)), repeat=2):
        if low != high and is_under(rows, low, high) and not is_under(rows, values[low], values[high]):
            return (low, high)
    return None


def slow_first_loss(rows, values):
    for u, v in product(range(len(rows)), repeat=2):
        if values[rows[u][v]] != rows[values[u]][values[v]]:
            return (u, v)
    return None


class ExamplesTest(unittest.TestCase):
    def test_as_written(self):
        told = [first_fall(fork(), [1, 0, 1]), first_loss(fork(), [1, 1, 2]), len(list(rising_maps(chain_joins(2))))]
        self.assertEqual(told, [(1, 2), (0, 1), 3])


class MadeTest(unittest.TestCase):
    def test_chains(self):
        for many in range(1, 65):
            joins = chain_joins(many)
            self.assertIsInstance(joins, Joins)
            self.assertEqual(joins.rows(), [[max(u, v) for v in range(many)] for u in range(many)])

    def test_unions(self):
        for many in range(7):
            joins = union_joins(many)
            self.assertIsInstance(joins, Joins)
            self.assertEqual(joins.rows(), [[u | v for v in range(2 ** many)] for u in range(2 ** many)])
        self.assertEqual(union_joins(0), Joins([[0]]))


class FirstTest(unittest.TestCase):
    def check(self, joins, values):
        rows = joins.rows()
        fall = stays(self, [values, joins], lambda: first_fall(joins, values))
        loss = stays(self, [values, joins], lambda: first_loss(joins, values))
        self.assertEqual(fall, slow_first_fall(rows, values))
        self.assertEqual(loss, slow_first_loss(rows, values))
        self.assertIn(type(fall), (tuple, type(None)))
        self.assertIn(type(loss), (tuple, type(None)))

    def test_all_maps_of_few_values(self):
        for many in (1, 2, 3):
            for joins in all_joins(many):
                for values in product(range(many), repeat=many):
                    self.check(joins, list(values))

    def test_maps_of_more_values(self):
        dice = Dice(7)
        for _ in range(300):
            rows = some_rows(dice, 12)
            joins = Joins(rows)
            self.check(joins, [dice.below(len(rows)) for _ in rows])
            rising = some_rising(dice, rows)
            self.assertIsNone(first_fall(joins, rising))
            self.check(joins, rising)
            rising[dice.below(len(rows))] = dice.below(len(rows))
            self.check(joins, rising)

    def test_greatest_sizes(self):
        chain = chain_joins(64)
        self.assertIsNone(first_fall(chain, list(range(64))))
        self.assertIsNone(first_loss(chain, [63] * 64))
        self.assertEqual(first_fall(chain, list(range(62)) + [62, 61]), (62, 63))
        self.assertEqual(first_loss(union_joins(6), [0] * 63 + [63]), (1, 62))

    def test_what_keeps_joins_rises(self):
        for joins in all_joins(4):
            for values in product(range(4), repeat=4):
                if first_loss(joins, list(values)) is None:
                    self.assertIsNone(first_fall(joins, list(values)))


class RisingMapsTest(unittest.TestCase):
    def test_all_maps_that_rise_in_ascending_order(self):
        dice = Dice(8)
        tried = [joins for many in (1, 2, 3, 4) for joins in all_joins(many)]
        tried += [Joins(some_rows(dice, 6)) for _ in range(8)] + [chain_joins(5), chain_joins(6)]
        for joins in tried:
            rows = joins.rows()
            every = product(range(len(rows)), repeat=len(rows))
            wanted = [list(values) for values in every if slow_first_fall(rows, values) is None]
            self.assertEqual(list(rising_maps(joins)), wanted)
        self.assertEqual(list(rising_maps(chain_joins(2))), [[0, 0], [0, 1], [1, 1]])
        self.assertEqual(list(rising_maps(chain_joins(1))), [[0]])

    def test_each_is_a_new_list(self):
        made = []
        for values in rising_maps(fork()):
            self.assertIs(type(values), list)
            self.assertFalse(any(values is other for other in made))
            made.append(values)
        wanted = [list(values) for values in made]
        told = []
        for values in rising_maps(fork()):
            told.append(list(values))
            spoil(values)
        self.assertEqual(told, wanted)

    def test_left_early_and_by_turns(self):
        generator = rising_maps(union_joins(2))
        self.assertTrue(inspect.isgenerator(generator))
        first = list(islice(generator, 3))
        generator.close()
        whole = list(rising_maps(union_joins(2)))
        self.assertEqual(first, whole[:3])
        joins = union_joins(2)
        one, other = rising_maps(joins), rising_maps(joins)
        told = [next(one), next(one)]
        turns = list(zip(other, one))
        self.assertEqual(told + [theirs for _, theirs in turns], whole)
        self.assertEqual([ours for ours, _ in turns], whole[:len(turns)])

    def test_the_first_ones_come_soon(self):
        flat = Joins([[u if u == v else 8 for v in range(9)] for u in range(9)])
        self.assertEqual(list(islice(rising_maps(flat), 2)), [[0] * 9, [0, 0, 0, 0, 0, 0, 0, 0, 8]])


class AllJoinsTest(unittest.TestCase):
    def test_all_of_up_to_four_values_in_ascending_order(self):
        for many, how_many in ((1, 1), (2, 2), (3, 9), (4, 76)):
            cells = list(combinations(range(many), 2))
            wanted = []
            for values in product(range(many), repeat=len(cells)):
                rows = [[u] * many for u in range(many)]
                for (u, v), value in zip(cells, values):
                    rows[u][v] = rows[v][u] = value
                if slow_bad_join(rows) is None:
                    wanted.append(rows)
            told = list(all_joins(many))
            self.assertTrue(all(isinstance(joins, Joins) for joins in told))
            self.assertEqual([joins.rows() for joins in told], sorted(wanted))
            self.assertEqual(len(told), how_many)

    def test_left_early_and_by_turns(self):
        generator = all_joins(4)
        self.assertTrue(inspect.isgenerator(generator))
        first = list(islice(generator, 3))
        generator.close()
        whole = list(all_joins(4))
        self.assertEqual(first, whole[:3])
        one, other = all_joins(4), all_joins(3)
        turns = list(zip(one, other))
        self.assertEqual([ours for ours, _ in turns], whole[:9])
        self.assertEqual([theirs for _, theirs in turns], list(all_joins(3)))


if __name__ == "__main__":
    unittest.main()
