"""[42] and [43]: path values, path facts and words; of [2] what a path is; of [4] NoStatement ahead of NoPlace."""

import inspect
import unittest
from itertools import islice, product

from factflows.analyses import Analysis
from factflows.errors import NoPlace, NoStatement
from factflows.facts import facts_of
from factflows.joins import chain_joins, union_joins
from factflows.paths import lost, path_fact, path_values, word_to, words_to
from factflows.programs import Program, line_program
from tests.helper import (Dice, fork, is_under, keeping_analysis, parity, parity_program, places_behind, slow_word_to,
                          slow_words, some_analysis, some_program, spoil, stays, swept_facts, swept_path_values)
from tests.test_facts import trials


class ExamplesTest(unittest.TestCase):
    def test_first(self):
        one, program = parity(), parity_program()
        told = [path_values(one, program, 1), path_fact(one, program, 1), path_values(one, program, 3),
                lost(one, program)]
        self.assertEqual(told, [[0, 1], 2, [], [(2, 2, 0)]])

    def test_second(self):
        one, program = parity(), parity_program()
        told = [word_to(one, program, 2, 0), word_to(one, program, 2, 2), list(words_to(program, 2, 2))]
        self.assertEqual(told, [("even", "even"), None, [("even", "even"), ("flip", "even")]])


class ValuesTest(unittest.TestCase):
    def test_path_values_and_path_facts(self):
        for _, one, program in trials(80, 300):
            rows = one.joins.rows()
            wanted = swept_path_values(one, program)
            for place in range(program.places):
                values = stays(self, [one, program], lambda: path_values(one, program, place))
                self.assertEqual(values, wanted[place])
                fact = stays(self, [one, program], lambda: path_fact(one, program, place))
                if values:
                    joined = values[0]
                    for value in values:
                        joined = rows[joined][value]
                    self.assertEqual(fact, joined)
                    self.assertIs(type(fact), int)
                else:
                    self.assertIsNone(fact)

    def test_path_values_are_what_words_do(self):
        dice = Dice(81)
        for _ in range(60):
            one, program = some_analysis(dice, ["a", "b"], 3), some_program(dice, ["a", "b"], 3, 5)
            for place in range(program.places):
                words = [word for length in range(8) for word in slow_words(program, place, length)]
                self.assertEqual(path_values(one, program, place), sorted({one.do(word) for word in words}))

    def test_lost(self):
        for _, one, program in trials(82, 300):
            rows = one.joins.rows()
            facts = swept_facts(one, program)
            known = [path_fact(one, program, place) for place in range(program.places)]
            wanted = [(place, fact, path) for place, (fact, path) in enumerate(zip(facts, known)) if fact != path]
            told = stays(self, [one, program], lambda: lost(one, program))
            self.assertEqual(told, wanted)
            for _, fact, path in told:
                self.assertTrue(is_under(rows, path, fact))

    def test_nothing_is_lost_where_joins_are_kept(self):
        dice = Dice(83)
        for _ in range(200):
            one, program = keeping_analysis(dice, ["a", "b"]), some_program(dice, ["a", "b"])
            self.assertEqual(lost(one, program), [])

    def test_something_is_lost_in_the_trials(self):
        self.assertGreater(sum(1 for _, one, program in trials(82, 300) if lost(one, program)), 10)

    def test_results_are_new(self):
        one, program = parity(), parity_program()
        for ask in (lambda: path_values(one, program, 1), lambda: path_values(one, program, 3),
                    lambda: lost(one, program)):
            told = ask()
            wanted = list(told)
            spoil(told)
            self.assertEqual(ask(), wanted)

    def test_great_programs(self):
        one = Analysis(chain_joins(64), {"a": [min(u + 1, 63) for u in range(64)], "b": [0] * 64})
        line = line_program(("a",) * 1999)
        self.assertEqual(path_values(one, line, 1999), [63])
        self.assertEqual(word_to(one, line, 1999, 63), ("a",) * 1999)
        self.assertEqual(list(words_to(line, 7, 7)), [("a",) * 7])
        self.assertEqual(lost(one, line), [])
        ring = line.with_edges([(1999, "b", 0), (1000, "a", 0)])
        self.assertEqual(path_values(one, ring, 0), [0, 63])
        self.assertEqual(word_to(one, ring, 0, 63), ("a",) * 1001)
        self.assertIsNone(word_to(one, ring, 0, 17))


class WordToTest(unittest.TestCase):
    def test_the_least_of_the_shortest_words(self):
        dice = Dice(84)
        for at in range(250):
            names = dice.pick([["b", "a"], ["a"], ["b", "ab"]])
            one = keeping_analysis(dice, names) if at % 4 == 0 else some_analysis(dice, names, 3)
            program = some_program(dice, names, 3, 6)
            if len(one) > 3:
                continue
            for place, value in product(range(program.places), range(len(one))):
                word = stays(self, [one, program], lambda: word_to(one, program, place, value))
                self.assertEqual(word, slow_word_to(one, program, place, value, 8))
                self.assertEqual(word is None, value not in path_values(one, program, place))
                if word is not None:
                    self.assertIs(type(word), tuple)

    def test_words_of_greater_programs(self):
        for _, one, program in trials(85, 150, 8, 8, 20):
            for place, value in product(range(program.places), range(len(one))):
                word = word_to(one, program, place, value)
                self.assertEqual(word is None, value not in path_values(one, program, place))
                if word is not None:
                    self.assertEqual(one.do(word), value)
                    self.assertIn(place, places_behind(program, word))

    def test_words_that_are_alike_up_to_their_end(self):
        # Two begin places, and two places behind "a": the least word is not the one by the least places.
        one = Analysis(chain_joins(1), {"a": [0], "b": [0], "c": [0]})
        program = Program(6, [0, 1], [(0, "a", 2), (1, "a", 3), (2, "c", 4), (3, "b", 4), (2, "b", 5), (3, "a", 5)])
        self.assertEqual([word_to(one, program, 4, 0), word_to(one, program, 5, 0)], [("a", "b"), ("a", "a")])
        further = Program(8, [0], [(0, "b", 1), (0, "a", 2), (1, "a", 3), (2, "b", 4), (3, "a", 5), (4, "c", 5),
                                   (2, "a", 6), (6, "c", 7), (4, "a", 7), (3, "a", 7)])
        self.assertEqual([word_to(one, further, 5, 0), word_to(one, further, 7, 0)], [("a", "b", "c"), ("a", "a", "c")])

    def test_the_value_is_that_of_the_word_not_of_the_place(self):
        one = Analysis(union_joins(2), {"a": [1, 1, 1, 1], "b": [2, 2, 2, 2]})
        program = Program(2, [0], [(0, "a", 1), (0, "b", 1)])
        self.assertEqual([word_to(one, program, 1, value) for value in range(4)], [None, ("a",), ("b",), None])
        self.assertEqual(word_to(one, program, 0, 0), ())
        self.assertEqual(word_to(one, Program(2, [0], [(1, "a", 0)]), 1, 0), None)

    def test_a_begin_place_has_the_empty_word(self):
        one = Analysis(chain_joins(2), {"a": [1, 1]}, begin=1)
        self.assertEqual(word_to(one, Program(2, [1], [(0, "a", 1), (1, "a", 1)]), 1, 1), ())


class WordsToTest(unittest.TestCase):
    def test_all_words_in_ascending_order_each_once(self):
        dice = Dice(86)
        for _ in range(120):
            program = some_program(dice, ["b", "a", "ab"], 4, 9)
            for place, length in product(range(program.places), range(5)):
                words = stays(self, [program], lambda: list(words_to(program, place, length)))
                self.assertEqual(words, slow_words(program, place, length))
                self.assertEqual(words, sorted(set(words)))

    def test_no_statements(self):
        program = Program(3, [0, 1], [(0, "a", 2)])
        self.assertEqual([list(words_to(program, place, 0)) for place in range(3)], [[()], [()], []])

    def test_left_early_and_by_turns(self):
        program = Program(2, [0], [(0, "a", 0), (0, "b", 1), (1, "a", 0), (0, "c", 1), (1, "b", 1)])
        whole = list(words_to(program, 1, 5))
        generator = words_to(program, 1, 5)
        self.assertTrue(inspect.isgenerator(generator))
        self.assertEqual(list(islice(generator, 4)), whole[:4])
        generator.close()
        one, other = words_to(program, 1, 5), words_to(program, 1, 5)
        told = [next(one), next(one)]
        turns = list(zip(other, one))
        self.assertEqual(told + [theirs for _, theirs in turns], whole)
        self.assertEqual([ours for ours, _ in turns], whole[:len(turns)])
        short, wide = words_to(program, 0, 3), words_to(program, 1, 4)
        turns = list(zip(short, wide))
        self.assertEqual([ours for ours, _ in turns], list(words_to(program, 0, 3)))

    def test_the_first_ones_of_very_many_come_soon(self):
        program = Program(1, [0], [(0, letter, 0) for letter in "hgfedcba"])
        self.assertEqual(list(islice(words_to(program, 0, 8), 3)),
                         [("a",) * 8, ("a",) * 7 + ("b",), ("a",) * 7 + ("c",)])
        dead = Program(12, [0], [(m, letter, n) for m in range(11) for letter in "abc" for n in range(11)])
        self.assertEqual(list(words_to(dead, 11, 8)), [])
        late = dead.with_edges([(10, "z", 11)])
        self.assertEqual(next(words_to(late, 11, 8)), ("a",) * 7 + ("z",))


class ErrorsTest(unittest.TestCase):
    def calls(self, one, program, place):
        return [lambda: path_values(one, program, place), lambda: path_fact(one, program, place),
                lambda: word_to(one, program, place, 0)]

    def test_no_place(self):
        one, program = parity(), parity_program()
        for place in (-1, -4, 4, 5, 2 ** 80, -2 ** 80):
            for call in [*self.calls(one, program, place), lambda: list(words_to(program, place, 2)),
                         lambda: next(words_to(program, place, 0)), lambda: list(words_to(program, place, 8))]:
                with self.assertRaises(NoPlace) as caught:
                    stays(self, [one, program], call)
                self.assertIs(caught.exception.place, place)

    def test_no_statement_ahead_of_no_place(self):
        one = Analysis(fork(), {"b": [0, 1, 2]})
        for edges, name in [([(0, "c", 0), (1, "a", 1)], "a"), ([(1, "z", 0), (0, "b", 1)], "z")]:
            program = Program(2, [0], edges)
            for place in (0, 1, -1, 2, 7, 2 ** 80, -2 ** 80):
                for call in self.calls(one, program, place) + [lambda: lost(one, program)]:
                    with self.assertRaises(NoStatement) as caught:
                        stays(self, [one, program], call)
                    self.assertEqual(caught.exception.name, name)

    def test_places_that_are_not_reached_are_no_error(self):
        one, program = parity(), parity_program()
        self.assertEqual([path_values(one, program, 3), path_fact(one, program, 3), word_to(one, program, 3, 0),
                          list(words_to(program, 3, 0)), list(words_to(program, 3, 3))], [[], None, None, [], []])
        self.assertIsNone(facts_of(one, program)[3])


if __name__ == "__main__":
    unittest.main()
