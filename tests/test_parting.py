"""[82]: analyses that part two places; [6] and [7]."""

import unittest
from itertools import product

from factflows.analyses import Analysis
from factflows.errors import NoPlace, TooMany, Unreached
from factflows.facts import facts_of
from factflows.follows import is_within
from factflows.joins import Joins, chain_joins
from factflows.mirrors import mirror_of, word_mirror
from factflows.parting import is_parting, parting_of, word_parting
from factflows.programs import Program, line_program
from factflows.words import compare_words
from tests.helper import (Dice, is_under, keeping_analysis, odd_values, raised, slow_reached, some_analysis, some_programs,
                          stays)
from tests.test_follows import ONE, OTHER
from tests.test_mirrors import many_sets, slow_mirror, slow_word_mirror
from tests.test_words import slow_parting_word


def both_statements(one, other):
    return sorted(set(one.statements() + other.statements()))


def slow_is_parting(one, place, other, there, thing):
    if type(thing) is not Analysis or not set(both_statements(one, other)) <= set(thing.statements()):
        return False
    return not is_under(thing.joins.rows(), facts_of(thing, one)[place], facts_of(thing, other)[there])


class ExamplesTest(unittest.TestCase):
    def test_as_written(self):
        analysis, _ = mirror_of(OTHER, ['a', 'b', 'c'])
        self.assertEqual([parting_of(ONE, 2, OTHER, 3) == analysis, is_parting(ONE, 2, OTHER, 3, analysis),
                          parting_of(OTHER, 3, ONE, 2)], [True, True, None])


class PartingOfTest(unittest.TestCase):
    """[6]"""

    def test_against_a_slow_reckoning(self):
        within = parted = 0
        for _, one, other in some_programs(910, 120):
            mirror = slow_mirror(other, both_statements(one, other))[0]
            for place, there in product(slow_reached(one), slow_reached(other)):
                told = stays(self, [one, other], lambda: parting_of(one, place, other, there))
                if is_within(one, place, other, there):
                    self.assertIsNone(told)
                    within += 1
                else:
                    self.assertIs(type(told), Analysis)
                    self.assertEqual(told, mirror)
                    self.assertIs(is_parting(one, place, other, there, told), True)
                    self.assertTrue(slow_is_parting(one, place, other, there, told))
                    parted += 1
        self.assertGreater(min(within, parted), 200)

    def test_within_by_each_analysis(self):
        dice, within = Dice(911), 0
        for _, one, other in some_programs(912, 150):
            analysis = some_analysis(dice, both_statements(one, other))
            for place, there in product(slow_reached(one), slow_reached(other)):
                if parting_of(one, place, other, there) is None:
                    self.assertIs(is_parting(one, place, other, there, analysis), False)
                    within += 1
        self.assertGreater(within, 150)

    def test_most(self):
        one = line_program(("c",))
        for places in (6, 7, 12):
            other = many_sets(places)
            self.assertIsNone(parting_of(one, 0, other, 0))
            self.assertIsNone(parting_of(one, 0, other, 0, most=1))
            if places == 6:
                told = parting_of(one, 1, other, 0)
                self.assertEqual((len(told), told.statements()), (64, ["a", "b", "c"]))
                self.assertEqual(raised(self, TooMany, lambda: parting_of(one, 1, other, 0, most=63)).limit, 63)
            else:
                self.assertEqual(raised(self, TooMany, lambda: parting_of(one, 1, other, 0)).limit, 64)


class WordPartingTest(unittest.TestCase):
    """[7]"""

    def test_against_a_slow_search(self):
        within = parted = longer = 0
        for _, one, other in some_programs(913, 200):
            for place, there in product(slow_reached(one), slow_reached(other)):
                word = slow_parting_word(one, place, other, there, 5)
                if word is None and compare_words(one, place, other, there)[0] == "parted":
                    longer += 1
                    self.assertEqual(raised(self, TooMany, lambda: word_parting(one, place, other, there)).limit, 64)
                    continue
                told = stays(self, [one, other], lambda: word_parting(one, place, other, there))
                if word is None:
                    self.assertIsNone(told)
                    within += 1
                    continue
                self.assertEqual(told, word_mirror(word, both_statements(one, other))[0])
                if len(word) < 4:
                    self.assertEqual(told, slow_word_mirror(word, both_statements(one, other))[0])
                self.assertIsNone(told.unkept())
                self.assertIs(is_parting(one, place, other, there, told), True)
                parted += len(word) > 1
        self.assertGreater(min(within, parted), 100)

    def test_within_by_each_analysis_that_keeps_joins(self):
        dice, within = Dice(914), 0
        for _, one, other in some_programs(915, 100):
            analysis = keeping_analysis(dice, both_statements(one, other))
            for place, there in product(slow_reached(one), slow_reached(other)):
                if compare_words(one, place, other, there)[0] == "within":
                    self.assertIsNone(word_parting(one, place, other, there))
                    self.assertIs(is_parting(one, place, other, there, analysis), False)
                    within += 1
        self.assertGreater(within, 150)

    def test_most(self):
        other = line_program(())
        for length in range(1, 6):
            one, many = line_program(("a",) * length), 2 ** (length + 1)
            told = word_parting(one, length, other, 0, most=many)
            self.assertEqual(told, word_mirror(("a",) * length, ["a"])[0])
            self.assertEqual(raised(self, TooMany, lambda: word_parting(one, length, other, 0, most=many - 1)).limit, many - 1)
            self.assertIsNone(word_parting(one, length, one, length, most=1))
        self.assertEqual(raised(self, TooMany, lambda: word_parting(line_program(("a",) * 6), 6, other, 0)).limit, 64)
        self.assertEqual(word_parting(other, 0, line_program(("a",)), 1), word_mirror((), ["a"])[0])
        self.assertEqual(word_parting(other, 0, Program(2, [0], [(0, "a", 1)]), 1, most=2), word_mirror((), ["a"])[0])

    def test_too_many_rows(self):
        edges = [(at, s, at + 1) for at in range(1, 10) for s in "ab"] + [(at, "b", 1) for at in range(11)]
        other = Program(11, [0], edges + [(0, s, 0) for s in "ab"])
        one = Program(1, [0], [(0, "a", 0), (0, "b", 0)])
        # They are too many whatever it would return, and whatever most is.
        for there in (0, 10):
            for most in (1, 64):
                told = raised(self, TooMany, lambda: word_parting(one, 0, other, there, most=most))
                self.assertEqual(told.limit, 1000)


class ErrorsTest(unittest.TestCase):
    def test_no_place_ahead_of_unreached(self):
        one, other = Program(3, [0], [(0, "a", 1)]), Program(4, [1], [(1, "b", 2)])
        calls = [lambda place, there: parting_of(one, place, other, there),
                 lambda place, there: parting_of(one, place, other, there, most=1),
                 lambda place, there: word_parting(one, place, other, there, most=1),
                 lambda place, there: is_parting(one, place, other, there, None),
                 lambda place, there: is_parting(one, place, other, there, Analysis(Joins([[0]]), {}))]
        for place, there in product((-1, 0, 1, 2, 3, 4, 2 ** 80), repeat=2):
            missing = [at for at, many in ((place, 3), (there, 4)) if not 0 <= at < many]
            unreached = [at for at, places in ((place, (0, 1)), (there, (1, 2))) if at not in places]
            for call in calls:
                if missing:
                    self.assertIs(raised(self, NoPlace, lambda: call(place, there)).place, missing[0])
                elif unreached:
                    self.assertEqual(raised(self, Unreached, lambda: call(place, there)).place, unreached[0])


class IsPartingTest(unittest.TestCase):
    def check(self, one, place, other, there, thing, wanted):
        told = stays(self, [one, other, thing], lambda: is_parting(one, place, other, there, thing))
        self.assertIs(told, wanted)

    def test_against_a_slow_reckoning(self):
        dice, counts = Dice(916), {True: 0, False: 0}
        for _, one, other in some_programs(917, 200):
            names = both_statements(one, other)
            analyses = [some_analysis(dice, names), some_analysis(dice, sorted(set(names + ["d"]))),
                        some_analysis(dice, [name for name in names if dice.below(4)])]
            for place, there in product(slow_reached(one), slow_reached(other)):
                for analysis in analyses:
                    wanted = slow_is_parting(one, place, other, there, analysis)
                    self.check(one, place, other, there, analysis, wanted)
                    counts[wanted] += 1
        self.assertGreater(min(counts.values()), 500)

    def test_statements(self):
        one, other = line_program(("a",)), line_program(("b",))
        high = {"a": [1, 1], "b": [0, 0], "c": [1, 1]}
        self.check(one, 1, other, 1, Analysis(chain_joins(2), high), True)
        self.check(other, 1, one, 1, Analysis(chain_joins(2), high), False)
        for name in "ab":
            self.check(one, 1, other, 1, Analysis(chain_joins(2), high).without([name]), False)
        self.check(one, 1, other, 1, Analysis(chain_joins(2), high).without(["c"]), True)
        # A statement that only an edge from an unreached place bears is one of the program, too.
        far = Program(4, [0], [(0, "a", 1), (2, "d", 3)])
        self.check(far, 1, other, 1, Analysis(chain_joins(2), high), False)
        self.check(far, 1, other, 1, Analysis(chain_joins(2), high).with_map("d", [0, 0]), True)

    def test_equal_and_incomparable_facts(self):
        fork = Joins([[0, 2, 2], [2, 1, 2], [2, 2, 2]])
        one = Program(3, [0], [(0, "a", 1), (0, "b", 2)])
        analysis = Analysis(fork, {"a": [1, 1, 1], "b": [2, 2, 2]})
        self.check(one, 0, one, 0, analysis, False)
        self.check(one, 0, one, 1, analysis, True)
        self.check(one, 1, one, 0, analysis, True)
        self.check(one, 0, one, 2, analysis, False)
        self.check(one, 2, one, 0, analysis, True)

    def test_other_values(self):
        bare = Program(1, [0], [])
        for thing in odd_values():
            self.check(ONE, 2, OTHER, 3, thing, False)
            self.check(bare, 0, bare, 0, thing, False)


if __name__ == "__main__":
    unittest.main()
