"""[22]: Joins; of [2] what Joins are; of [3] copies and equality; of [4] Wrong, BadJoin and TooMany."""

import unittest
from itertools import combinations, product

from factflows.analyses import Analysis
from factflows.errors import BadJoin, TooMany, Wrong
from factflows.joins import Joins, all_joins, chain_joins, union_joins
from factflows.programs import Program
from tests.helper import FORK, Dice, asked_often, fork, is_under, no_list_twice, odd_values, some_rows, spoil, stays


def slow_bad_join(rows):
    """The least of the shortest tuples, by the words of the document."""
    values = range(len(rows))
    ones = [(u,) for u in values if rows[u][u] != u]
    twos = [(u, v) for u in values for v in values if rows[u][v] != rows[v][u]]
    threes = [(u, v, w) for u in values for v in values for w in values if rows[rows[u][v]][w] != rows[u][rows[v][w]]]
    for found in (ones, twos, threes):
        if found:
            return min(found)
    return None


def samples():
    """Joins of many shapes."""
    dice = Dice(22)
    found = [joins for many in (1, 2, 3, 4) for joins in all_joins(many)]
    found += [Joins(some_rows(dice, 12)) for _ in range(60)]
    return found + [chain_joins(7), union_joins(3), chain_joins(2) * fork() * chain_joins(2)]


ASKS = [
    lambda joins: joins.rows(), lambda joins: joins.join(0, len(joins) - 1),
    lambda joins: joins.join_all(list(range(len(joins)))), lambda joins: joins.is_below(0, len(joins) - 1),
    lambda joins: joins.below(0), lambda joins: joins.above(0), lambda joins: joins.below(len(joins) - 1),
    lambda joins: joins.above(len(joins) - 1), lambda joins: joins.top(), lambda joins: joins.bottom(),
    lambda joins: joins.meet(0, len(joins) - 1), lambda joins: joins.covers(), lambda joins: joins.height(),
    lambda joins: joins.parts(), lambda joins: joins.closed([0, len(joins) - 1]), lambda joins: joins.closed([]),
    lambda joins: joins.moved(list(reversed(range(len(joins))))).rows(), lambda joins: (joins * chain_joins(2)).rows(),
    lambda joins: (chain_joins(2) * joins).rows(), lambda joins: len(joins), lambda joins: repr(joins),
    lambda joins: joins == Joins(joins.rows()), lambda joins: joins == chain_joins(2),
]


class ExamplesTest(unittest.TestCase):
    def test_first(self):
        one = fork()
        told = [one.join(0, 1), one.meet(0, 1), one.bottom(), one.top(), one.covers(), one.height(), one.parts()]
        self.assertEqual(told, [2, None, None, 2, [(0, 2), (1, 2)], 2, [0, 1]])

    def test_second(self):
        told = [fork().closed([1, 0]), fork().moved([2, 1, 0]).rows(), chain_joins(3).below(1)]
        self.assertEqual(told, [[0, 1, 2], [[0, 0, 0], [0, 1, 0], [0, 0, 2]], [0, 1]])

    def test_third(self):
        with self.assertRaises(BadJoin) as caught:
            Joins([[0, 1], [0, 1]])
        self.assertEqual(caught.exception.which, (0, 1))


class WrongTest(unittest.TestCase):
    def wrong(self, rows):
        with self.assertRaises(Wrong) as caught:
            stays(self, [rows], lambda: Joins(rows))
        self.assertEqual(caught.exception.place, 0)
        self.assertIs(type(caught.exception.place), int)

    def test_rows_that_are_no_table(self):
        wrong = [
            [], [[]], [[], []], [[0], [0]], [[0, 1]], [[0, 1], [1]], [[0, 1], [1, 1, 1]], [[0, 1], [1, 1], [1, 1]],
            [[0, 1], 1], [0, 1], [[0, 1], (1, 1)], ([0, 1], [1, 1]), [(0,)], ((0,),), [[[0]]], [[(0,)]], [[None]],
            [["0"]], ["0"], [b"\x00"], [{0: 0}], [{0}], {0: [0]}, [range(1)], [[0, 1], None], [[Joins([[0]])]],
        ]
        for rows in wrong:
            self.wrong(rows)

    def test_values_that_are_none(self):
        for value in (2, 3, -1, -2, 2 ** 80, -2 ** 80, True, False, None, "1", (1,), [1], b"1"):
            for u, v in product(range(2), repeat=2):
                rows = [[0, 1], [1, 1]]
                rows[u][v] = value
                self.wrong(rows)
        self.wrong([[False]])
        self.wrong([[1]])

    def test_wrong_stands_ahead_of_bad_joins(self):
        for value in (3, -1, True, "2"):
            self.wrong([[1, 0, 0], [0, 0, 1], [0, 1, value]])

    def test_from_one_to_64_lists(self):
        def chain_rows(many):
            return [[max(u, v) for v in range(many)] for u in range(many)]

        for many in (1, 2, 63, 64):
            self.assertEqual(Joins(chain_rows(many)).rows(), chain_rows(many))
        for many in (0, 65, 66, 130):
            self.wrong(chain_rows(many))

    def test_odd_values(self):
        for thing in odd_values():
            if thing != [[0]]:
                self.wrong(thing)
            self.wrong([thing])
            self.wrong([[thing]])
            self.wrong([[0, 1], [1, thing]])
            self.wrong([[0, 1], thing])

    def test_many_parts_and_deep_ones(self):
        self.wrong([[0] * 9000, [0] * 9000])
        self.wrong([[u] for u in range(9000)])
        thing = 0
        for _ in range(18):
            thing = [thing]
        self.wrong([thing])


class BadJoinTest(unittest.TestCase):
    def check(self, rows):
        which = slow_bad_join(rows)
        if which is None:
            self.assertEqual(Joins(rows).rows(), rows)
        else:
            with self.assertRaises(BadJoin) as caught:
                Joins(rows)
            self.assertEqual(caught.exception.which, which)
            self.assertIs(type(caught.exception.which), tuple)

    def test_all_tables_of_one_to_three_values(self):
        for many in (1, 2, 3):
            for cells in product(range(many), repeat=many * many):
                self.check([list(cells[many * u:many * u + many]) for u in range(many)])

    def test_tables_of_four_values_that_break_the_third_row_only(self):
        cells = list(combinations(range(4), 2))
        for values in product(range(4), repeat=6):
            rows = [[u] * 4 for u in range(4)]
            for (u, v), value in zip(cells, values):
                rows[u][v] = rows[v][u] = value
            self.check(rows)

    def test_right_tables_spoilt(self):
        dice = Dice(3)
        for _ in range(300):
            rows = some_rows(dice, 12)
            for _ in range(1 + dice.below(2)):
                rows[dice.below(len(rows))][dice.below(len(rows))] = dice.below(len(rows))
            self.check(rows)

    def test_great_tables_spoilt(self):
        rows = union_joins(6).rows()
        for u, v, value in ((63, 63, 0), (62, 63, 0), (40, 20, 1), (0, 63, 62)):
            spoilt = [list(row) for row in rows]
            spoilt[u][v] = value
            self.check(spoilt)
            spoilt[v][u] = value
            self.check(spoilt)


class TellsTest(unittest.TestCase):
    """Each method against the words of the document."""

    def test_joins_and_below(self):
        for joins in samples():
            rows = joins.rows()
            values = range(len(rows))
            self.assertEqual(len(joins), len(rows))
            for u, v in product(values, repeat=2):
                self.assertEqual(joins.join(u, v), rows[u][v])
                self.assertIs(joins.is_below(u, v), rows[u][v] == v)
            for u in values:
                self.assertEqual(joins.below(u), [v for v in values if rows[v][u] == u])
                self.assertEqual(joins.above(u), [v for v in values if rows[u][v] == v])

    def test_join_all_and_closed(self):
        dice = Dice(4)
        for joins in samples():
            rows = joins.rows()
            for _ in range(4):
                some = [dice.below(len(rows)) for _ in range(1 + dice.below(5))]
                joined = some[0]
                for value in some[1:]:
                    joined = rows[joined][value]
                self.assertEqual(stays(self, [some], lambda: joins.join_all(some)), joined)
                closed = set(some)
                for _ in range(5):
                    closed |= {rows[u][v] for u in closed for v in closed}
                self.assertEqual(stays(self, [some], lambda: joins.closed(some)), sorted(closed))
            self.assertEqual(joins.closed([]), [])
            for value in range(len(rows)):
                self.assertEqual(joins.closed([value, value]), [value])
                self.assertEqual(joins.join_all([value]), value)

    def test_top_bottom_and_meet(self):
        for joins in samples():
            rows = joins.rows()
            values = range(len(rows))
            self.assertEqual([joins.top()], [v for v in values if all(is_under(rows, u, v) for u in values)])
            lowest = [u for u in values if all(is_under(rows, u, v) for v in values)]
            self.assertEqual(joins.bottom(), lowest[0] if lowest else None)
            for u, v in product(values, repeat=2):
                both = [w for w in values if is_under(rows, w, u) and is_under(rows, w, v)]
                greatest = [w for w in both if all(is_under(rows, x, w) for x in both)]
                self.assertEqual(joins.meet(u, v), greatest[0] if both else None)

    def test_covers_height_and_parts(self):
        for joins in samples():
            rows = joins.rows()
            values = range(len(rows))
            strict = [(u, v) for u in values for v in values if u != v and is_under(rows, u, v)]
            covers = [(u, v) for u, v in strict if not any((u, w) in strict and (w, v) in strict for w in values)]
            self.assertEqual(joins.covers(), covers)
            longest, chains = 0, [(u,) for u in values]
            while chains:
                longest, chains = longest + 1, [(v, *chain) for chain in chains for v, u in covers if u == chain[0]]
            self.assertEqual(joins.height(), longest)
            made = {rows[u][v] for u in values for v in values if rows[u][v] not in (u, v)}
            self.assertEqual(joins.parts(), [u for u in values if u not in made])

    def test_moved(self):
        dice = Dice(5)
        for joins in samples():
            order = dice.shuffled(range(len(joins)))
            moved = stays(self, [order], lambda: joins.moved(order))
            self.assertIsInstance(moved, Joins)
            for u, v in product(range(len(joins)), repeat=2):
                self.assertEqual(moved.join(order[u], order[v]), order[joins.join(u, v)])
        self.assertEqual(chain_joins(3).moved([1, 2, 0]).rows(), [[0, 0, 0], [0, 1, 2], [0, 2, 2]])

    def test_shown(self):
        self.assertEqual(repr(fork()), "Joins([[0, 2, 2], [2, 1, 2], [2, 2, 2]])")
        self.assertEqual(repr(Joins([[0]])), "Joins([[0]])")
        for joins in samples() + [chain_joins(64), union_joins(6)]:
            self.assertEqual(repr(joins), f"Joins({joins.rows()})")
            self.assertEqual(eval(repr(joins)), joins)

    def test_greatest_sizes(self):
        chain, sets = chain_joins(64), union_joins(6)
        self.assertEqual([chain.height(), chain.top(), chain.bottom(), len(chain.covers())], [64, 63, 0, 63])
        self.assertEqual([sets.height(), sets.top(), sets.bottom(), len(sets.covers())], [7, 63, 0, 192])
        self.assertEqual([chain.parts(), sets.parts()], [list(range(64)), [0, 1, 2, 4, 8, 16, 32]])
        self.assertEqual([chain.meet(17, 40), sets.meet(17, 51), sets.join_all([1, 4, 32])], [17, 17, 37])
        self.assertEqual(sets.closed([1, 2, 4, 8, 16, 32]), list(range(1, 64)))
        order = list(reversed(range(64)))
        self.assertEqual(chain.moved(order).rows(), [[min(u, v) for v in range(64)] for u in range(64)])
        self.assertEqual(chain.moved(order).moved(order), chain)


class ProductTest(unittest.TestCase):
    def test_entry_by_entry(self):
        dice = Dice(6)
        for _ in range(60):
            one, other = Joins(some_rows(dice, 6)), Joins(some_rows(dice, 6))
            many = len(other)
            both = one * other
            self.assertEqual(len(both), len(one) * many)
            pairs = list(product(range(len(one)), range(many)))
            for (u, v), (x, y) in product(pairs, repeat=2):
                self.assertEqual(both.join(u * many + v, x * many + y), one.join(u, x) * many + other.join(v, y))

    def test_an_unlike_order_is_another_product(self):
        self.assertNotEqual(fork() * chain_joins(2), chain_joins(2) * fork())
        self.assertEqual((chain_joins(2) * chain_joins(2)).rows(), union_joins(2).rows())

    def test_at_and_beyond_64(self):
        for many, more in ((8, 8), (64, 1), (1, 64), (2, 32), (16, 4)):
            self.assertEqual(len(chain_joins(many) * chain_joins(more)), 64)
        self.assertEqual(union_joins(3) * union_joins(3), union_joins(6))
        for many, more in ((5, 13), (13, 5), (64, 2), (2, 64), (64, 64), (9, 8), (1, 64)):
            if many * more > 64:
                with self.assertRaises(TooMany) as caught:
                    chain_joins(many) * chain_joins(more)
                self.assertEqual(caught.exception.limit, 64)

    def test_products_with_others_are_none(self):
        for thing in (2, None, FORK, "a", Analysis(fork(), {})):
            with self.assertRaises(TypeError):
                fork() * thing
            with self.assertRaises(TypeError):
                thing * fork()


class KeepsTest(unittest.TestCase):
    def test_asked_often(self):
        for make in (fork, lambda: chain_joins(1), lambda: union_joins(2), lambda: Joins([[0, 1], [1, 1]])):
            asked_often(self, make, ASKS)

    def test_what_is_handed_in_is_changed_behind_the_call(self):
        rows = [list(row) for row in FORK]
        one = Joins(rows)
        spoil(rows)
        asked_often(self, lambda: one, ASKS)
        self.assertEqual(one, fork())
        row = [0]
        shared = [row]
        other = Joins(shared)
        row[0] = 7
        self.assertEqual(other.rows(), [[0]])

    def test_results_are_new(self):
        one = fork()
        for ask in ASKS:
            no_list_twice(self, ask(one))
            if isinstance(ask(one), list):
                self.assertIsNot(ask(one), ask(one))
        self.assertIsNot(one.rows()[0], one.rows()[0])

    def test_results_are_of_the_listed_kinds(self):
        for joins in samples():
            for ask in ASKS:
                self.assertIn(type(ask(joins)), (list, int, bool, str, type(None)))
            self.assertTrue(all(type(pair) is tuple for pair in joins.covers()))
            self.assertTrue(all(type(value) is int for row in joins.rows() for value in row))

    def test_equal_to_joins_with_the_same_rows_only(self):
        one = fork()
        self.assertTrue(one == fork())
        self.assertFalse(one != fork())
        self.assertFalse(one == one.moved([2, 1, 0]))
        self.assertTrue(chain_joins(2) == union_joins(1))
        self.assertTrue(one != chain_joins(3))
        self.assertFalse(chain_joins(2) == chain_joins(3))
        for thing in [*odd_values(), FORK, repr(one), tuple(FORK)]:
            if not isinstance(thing, Joins):
                self.assertIs(one == thing, False)
                self.assertIs(thing == one, False)
                self.assertIs(one != thing, True)
        self.assertFalse(Joins([[0]]) == Program(1, [0], []))
        self.assertFalse(Joins([[0]]) == Analysis(Joins([[0]]), {}))

    def test_equality_does_not_ask_the_other_class(self):
        class Same:
            def __eq__(self, other):
                return True

        self.assertIs(fork() == Same(), False)


if __name__ == "__main__":
    unittest.main()
