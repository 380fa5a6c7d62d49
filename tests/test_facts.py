"""[40] and [5]: facts and solutions; of [2] what facts are; of [4] NoStatement."""

import unittest
from itertools import product

from factflows.analyses import Analysis
from factflows.errors import NoStatement
from factflows.facts import facts_of, is_solution
from factflows.joins import chain_joins
from factflows.programs import Program, line_program
from tests.helper import (Dice, fork, is_under, keeping_analysis, odd_values, parity, parity_program, slow_facts,
                          slow_is_solution, slow_reached, some_analysis, some_program, spoil, stays, swept_facts)

NAMES = ["b", "a", "ab"]


def trials(seed, many, most_values=8, most_places=6, most_edges=16):
    """Analyses that keep joins and that do not, with programs that fit them."""
    dice = Dice(seed)
    for at in range(many):
        one = keeping_analysis(dice, NAMES) if at % 3 == 0 else some_analysis(dice, NAMES, most_values)
        yield dice, one, some_program(dice, NAMES, most_places, most_edges)


class ExamplesTest(unittest.TestCase):
    def test_as_written(self):
        one, program = parity(), parity_program()
        told = [facts_of(one, program), is_solution(one, program, [2, 2, 2, None]),
                is_solution(one, program, [0, 1, 0, None])]
        self.assertEqual(told, [[0, 2, 2, None], True, False])


class FactsTest(unittest.TestCase):
    def test_the_least_of_all_solutions(self):
        for _, one, program in trials(60, 150, 4, 4, 8):
            if len(one) <= 5 and program.places <= 4:
                self.assertEqual(facts_of(one, program), slow_facts(one, program))

    def test_many_programs(self):
        for _, one, program in trials(61, 400):
            facts = stays(self, [one, program], lambda: facts_of(one, program))
            self.assertEqual(facts, swept_facts(one, program))
            self.assertEqual([place for place, fact in enumerate(facts) if fact is not None], slow_reached(program))
            self.assertTrue(slow_is_solution(one, program, facts))
            self.assertEqual(facts_of(one, program), facts)

    def test_all_programs_of_two_places_and_two_statements(self):
        one = Analysis(fork(), {"a": [1, 0, 2], "b": [0, 2, 2]})
        edges = list(product(range(2), "ab", range(2)))
        for some in product((False, True), repeat=len(edges)):
            for begins in ([0], [1], [0, 1]):
                program = Program(2, begins, [edge for edge, there in zip(edges, some) if there])
                self.assertEqual(facts_of(one, program), slow_facts(one, program))

    def test_edges_from_places_that_are_not_reached_mean_nothing(self):
        one = Analysis(chain_joins(4), {"up": [1, 2, 3, 3], "top": [3, 3, 3, 3]})
        program = Program(4, [0], [(0, "up", 1), (2, "top", 1), (3, "top", 2), (3, "top", 0)])
        self.assertEqual(facts_of(one, program), [0, 1, None, None])
        self.assertTrue(is_solution(one, program, [0, 1, None, None]))

    def test_several_edges_between_two_places_and_several_begin_places(self):
        one = Analysis(fork(), {"a": [0, 0, 0], "b": [1, 1, 1]})
        self.assertEqual(facts_of(one, Program(2, [0], [(0, "a", 1), (0, "b", 1)])), [0, 2])
        self.assertEqual(facts_of(one, Program(3, [2, 0], [(0, "b", 2)])), [0, None, 2])
        self.assertEqual(facts_of(one, Program(3, [2, 1, 0], [])), [0, 0, 0])

    def test_loops(self):
        one = Analysis(chain_joins(12), {"up": [min(u + 1, 11) for u in range(12)]}, begin=3)
        self.assertEqual(facts_of(one, Program(1, [0], [(0, "up", 0)])), [11])
        self.assertEqual(facts_of(one, Program(2, [0], [(0, "up", 1), (1, "up", 0)])), [11, 11])
        self.assertEqual(facts_of(one, Program(2, [0], [(0, "up", 1), (1, "up", 1)])), [3, 11])

    def test_an_analysis_without_statements(self):
        one = Analysis(fork(), {}, begin=1)
        self.assertEqual(facts_of(one, Program(3, [1, 2], [])), [None, 1, 1])

    def test_great_programs(self):
        one = Analysis(chain_joins(64), {"a": [min(u + 1, 63) for u in range(64)], "b": list(range(64))})
        line = line_program(("a",) * 1999)
        self.assertEqual(facts_of(one, line), [min(at, 63) for at in range(2000)])
        self.assertEqual(facts_of(one, line.with_edges([(1999, "b", 0)])), [63] * 2000)
        self.assertTrue(is_solution(one, line, facts_of(one, line)))

    def test_results_are_new(self):
        one, program = parity(), parity_program()
        told = facts_of(one, program)
        spoil(told)
        self.assertEqual(facts_of(one, program), [0, 2, 2, None])


class SolutionsTest(unittest.TestCase):
    def check(self, one, program, values, wanted):
        told = stays(self, [one, program, values], lambda: is_solution(one, program, values))
        self.assertIs(told, wanted)

    def test_all_choices_of_values(self):
        for _, one, program in trials(62, 60, 4, 3, 6):
            if len(one) <= 4 and program.places <= 3:
                for values in product([None, *range(len(one))], repeat=program.places):
                    self.check(one, program, list(values), slow_is_solution(one, program, list(values)))

    def test_facts_spoilt(self):
        for dice, one, program in trials(63, 300):
            facts = facts_of(one, program)
            self.check(one, program, facts, True)
            tops = [None if fact is None else one.joins.top() for fact in facts]
            self.check(one, program, tops, True)
            for _ in range(6):
                values = list(dice.pick([facts, tops]))
                for _ in range(1 + dice.below(2)):
                    values[dice.below(len(values))] = dice.pick([None, *range(len(one))])
                self.check(one, program, values, slow_is_solution(one, program, values))

    def test_values_that_are_none(self):
        one, program = parity(), parity_program()
        for at in range(4):
            for value in (3, -1, 2 ** 80, True, False, "2", (2,), [2], "None", 0 if at == 3 else None, b"2"):
                values = [2, 2, 2, None]
                values[at] = value
                self.check(one, program, values, False)
        for at in (0, 1, 2):
            for value in (True, False):
                self.check(one, Program(3, [0, 1, 2], []), [value if at == place else 2 for place in range(3)], False)
        trivial = Analysis(chain_joins(2), {})
        self.check(trivial, Program(1, [0], []), [True], False)
        self.check(trivial, Program(1, [0], []), [False], False)
        self.check(trivial, Program(1, [0], []), [1], True)

    def test_other_values(self):
        one, program = parity(), parity_program()
        others = [(2, 2, 2, None), [2, 2, 2], [2, 2, 2, None, None], [2, 2, 2, None, 2], [], {}, None, "222-",
                  {0: 2, 1: 2, 2: 2, 3: None}, [[2, 2, 2, None]], facts_of]
        for thing in others + odd_values():
            self.check(one, program, thing, False)

    def test_a_begin_that_is_not_below(self):
        one = Analysis(chain_joins(3), {"a": [0, 1, 2]}, begin=1)
        program = Program(2, [0, 1], [(0, "a", 1)])
        for values in product(range(3), repeat=2):
            self.check(one, program, list(values), 1 <= values[0] <= values[1])


class ErrorsTest(unittest.TestCase):
    def test_the_least_statement_reached_or_not(self):
        one = Analysis(fork(), {"b": [0, 1, 2]})
        for edges, name in [([(0, "c", 0), (1, "a", 1)], "a"), ([(1, "z", 0), (0, "b", 1)], "z"),
                            ([(0, "c", 1), (0, "bb", 1)], "bb"), ([(0, "b", 1), (1, "a", 0)], "a")]:
            program = Program(2, [0], edges)
            calls = [lambda: facts_of(one, program)]
            calls += [lambda thing=thing: is_solution(one, program, thing) for thing in (None, [0, 0], [2, 2], "x")]
            for call in calls:
                with self.assertRaises(NoStatement) as caught:
                    stays(self, [one, program], call)
                self.assertEqual(caught.exception.name, name)

    def test_statements_that_are_not_in_the_program_are_no_matter(self):
        self.assertEqual(facts_of(parity(), Program(1, [0], [])), [0])


class MonotonyTest(unittest.TestCase):
    """[5]"""

    def test_facts_rise_with_a_further_edge_or_begin_place(self):
        for dice, one, program in trials(64, 300):
            facts = facts_of(one, program)
            edge = (dice.below(program.places), dice.pick(NAMES), dice.below(program.places))
            more = [program.with_edges([edge]), program.with_begins([dice.below(program.places)])]
            for other in more:
                for fact, there in zip(facts, facts_of(one, other)):
                    if fact is not None:
                        self.assertTrue(is_under(one.joins.rows(), fact, there))


if __name__ == "__main__":
    unittest.main()
