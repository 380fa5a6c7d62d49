"""[52] and [53]: patterns, and programs that show them; [6]: an analysis that parts what is not within."""

import unittest
from itertools import product

from factflows.analyses import Analysis
from factflows.errors import NoPlace
from factflows.facts import facts_of
from factflows.follows import is_within
from factflows.joins import Joins
from factflows.patterns import has_pattern, is_pattern, pattern_depth, pattern_of, shown_program
from factflows.programs import Program, line_program
from tests.helper import (Dice, asked_again, has_loop, is_under, odd_values, raised, reached_edges, slow_follow,
                          slow_ranks, slow_reached, some_program, some_programs, spoilt, stays)
from tests.test_follows import ONE, OTHER

PATTERN = [(False, ()), (False, (("b", 0), ("c", 0))), (False, (("a", 1),))]
LETTERS = "abcdefghijklmnopqrstuvwxyz"


def slow_is_pattern(thing):
    if type(thing) is not list or not thing:
        return False
    for at, item in enumerate(thing):
        if type(item) is not tuple or len(item) != 2 or item[0] is not True and item[0] is not False:
            return False
        if type(item[1]) is not tuple:
            return False
        for branch in item[1]:
            if type(branch) is not tuple or len(branch) != 2 or type(branch[0]) is not str or type(branch[1]) is not int:
                return False
            if not 0 <= branch[1] < at or not 1 <= len(branch[0]) <= 8 or set(branch[0]) - set(LETTERS):
                return False
        if list(item[1]) != sorted(set(item[1])):
            return False
    return True


def slow_has(program, place, pattern, index=-1):
    begins, branches = pattern[index]
    if place not in slow_reached(program) or begins and place not in program.begins():
        return False
    return all(any(s == name and n == place and slow_has(program, k, pattern, at) for k, s, n in reached_edges(program))
               for name, at in branches)


def slow_depth(pattern, index=-1):
    return max([1 + slow_depth(pattern, at) for _, at in pattern[index][1]], default=0)


def drawn_pattern(dice, names):
    pattern = []
    for at in range(1 + dice.below(5)):
        branches = {(dice.pick(names), dice.below(at)) for _ in range(dice.below(3)) if at}
        pattern.append((dice.below(4) == 0, tuple(sorted(branches))))
    return pattern


def had_sets(program, depth):
    """The sets of the reached places that have the patterns of at most some depth."""
    reached = frozenset(slow_reached(program))
    marks = [reached, reached & frozenset(program.begins())]
    sets = set(marks)
    for _ in range(depth):
        edges = reached_edges(program)
        one = {frozenset(n for m, s, n in edges if s == name and m in some)
               for name in program.statements() for some in sets}
        sets = set(marks)
        while True:
            more = sets | {some & led for some in sets for led in one}
            if more == sets:
                break
            sets = more
    return sets


def mirror(program, names):
    """The mirror [80] of a program: values are the sets that come, in some order."""
    start = frozenset(program.begins())
    sets = [start]
    while True:
        more = {frozenset(n for m, s, n in reached_edges(program) if s == name and m in some)
                for name in names for some in sets} | {some & other for some in sets for other in sets}
        if more <= set(sets):
            break
        sets += sorted(more - set(sets), key=sorted)
    if len(sets) > 64:
        return None, sets
    rows = [[sets.index(some & other) for other in sets] for some in sets]
    maps = {name: [sets.index(frozenset(n for m, s, n in reached_edges(program) if s == name and m in some))
                   for some in sets] for name in names}
    return Analysis(Joins(rows), maps, begin=0), sets


class ExamplesTest(unittest.TestCase):
    def test_as_written(self):
        told = [has_pattern(ONE, 2, PATTERN), has_pattern(OTHER, 3, PATTERN), pattern_depth(pattern_of(ONE, 2, OTHER, 3))]
        self.assertEqual(told, [True, False, 2])


class IsPatternTest(unittest.TestCase):
    def check(self, thing, wanted):
        self.assertIs(stays(self, [thing], lambda: is_pattern(thing)), wanted)

    def test_drawn_patterns_and_spoilt_ones(self):
        dice, right, wrong = Dice(300), 0, 0
        for _ in range(1500):
            pattern = drawn_pattern(dice, ["a", "b", "ab"])
            self.assertTrue(slow_is_pattern(pattern))
            self.check(pattern, True)
            for _ in range(4):
                thing = spoilt(dice, pattern)
                self.check(thing, slow_is_pattern(thing))
                right, wrong = right + slow_is_pattern(thing), wrong + (not slow_is_pattern(thing))
        self.assertGreater(min(right, wrong), 200)

    def test_edges(self):
        for thing in ([(False, ())], [(True, ())], PATTERN, PATTERN[:1], PATTERN[:2], PATTERN * 3,
                      [(False, ())] * 5000, PATTERN + [(True, (("a", 0), ("a", 1), ("ab", 0), ("b", 2)))]):
            self.check(thing, True)
        first = [(False, ())]
        for item in [(0, ()), (1, ()), (None, ()), (False, []), [False, ()], (False,), (), (False, (), ()), (False, None),
                     (False, (("a", 0), ("a", 0))), (False, (("b", 0), ("a", 0))), (False, (("a", 1),)),
                     (False, (("a", 2 ** 80),)), (False, (("a", -1),)), (False, (("a", False),)), (False, (("a", "0"),)),
                     (False, (("a", None),)), (False, (["a", 0],)), (False, (("A", 0),)), (False, (("", 0),)),
                     (False, ((b"a", 0),)), (False, (("abcdefghi", 0),)), (False, (("a",),)), (False, (("a", 0, 0),)),
                     (False, ((0, "a"),)), (False, ("a0",)), (False, (None,)), ((), False), "ab", (False, {("a", 0): 1})]:
            self.check(first + [item], False)
            self.check([item] + first, False)
        self.check(PATTERN[1:], False)
        self.check([], False)
        self.check([(False, (("a", 0),))], False)

    def test_other_values(self):
        for thing in odd_values():
            self.check(thing, False)
            self.check([thing], False)
            self.check(PATTERN + [thing], False)
            self.check(PATTERN + [(thing, ())], thing is True or thing is False)
            self.check(PATTERN + [(True, thing)], type(thing) is tuple and thing == ())
            self.check(PATTERN + [(True, (thing,))], False)
            self.check(PATTERN + [(True, (("a", thing),))], False)
        self.check(tuple(PATTERN), False)


class HasPatternTest(unittest.TestCase):
    def test_against_a_slow_reckoning(self):
        dice, had = Dice(301), 0
        for _ in range(600):
            program, pattern = some_program(dice, ["a", "b", "ab"], 5, 12), drawn_pattern(dice, ["a", "b", "ab", "c"])
            for place in range(program.places):
                told = stays(self, [program, pattern], lambda: has_pattern(program, place, pattern))
                self.assertIs(told, slow_has(program, place, pattern))
                had += told and len(pattern[-1][1]) > 0
            self.assertEqual(pattern_depth(pattern), slow_depth(pattern))
            self.assertIs(type(pattern_depth(pattern)), int)
        self.assertGreater(had, 50)

    def test_what_items_ask_for(self):
        program = Program(4, [0, 1], [(0, "a", 2), (1, "b", 2), (3, "c", 2), (2, "c", 1)])
        every, begin = [(False, ())], [(True, ())]
        self.assertEqual([has_pattern(program, place, every) for place in range(4)], [True, True, True, False])
        self.assertEqual([has_pattern(program, place, begin) for place in range(4)], [True, True, False, False])
        for branches, wanted in [((("a", 0), ("b", 0)), True), ((("c", 0),), False), ((("b", 1),), True),
                                 ((("a", 1),), True), ((("a", 2),), False), ((("b", 2),), True)]:
            pattern = [(False, ()), (True, ()), (True, (("c", 0),)), (False, branches)]
            self.assertIs(has_pattern(program, 2, pattern), wanted)
        # Only the last item counts.
        self.assertIs(has_pattern(program, 2, [(True, ()), (False, ())]), True)
        self.assertIs(has_pattern(program, 2, [(False, ()), (True, ())]), False)

    def test_depths(self):
        for pattern, depth in [([(True, ())], 0), (PATTERN, 2), (PATTERN[:2], 1), (PATTERN + [(True, ())], 0),
                               (PATTERN + [(True, (("a", 0), ("b", 2)))], 3), (PATTERN + [(True, (("b", 0),))], 1)]:
            self.assertEqual(pattern_depth(pattern), depth)
        chain = [(False, ())] + [(False, (("a", at),)) for at in range(3000)]
        self.assertEqual(pattern_depth(chain), 3000)
        self.assertIs(has_pattern(Program(1, [0], [(0, "a", 0)]), 0, chain), True)
        self.assertIs(has_pattern(line_program(("a",) * 9), 9, chain), False)
        self.assertIs(has_pattern(line_program(("a",) * 9), 9, chain[:10]), True)
        self.assertIs(has_pattern(line_program(("a",) * 9), 9, chain[:11]), False)

    def test_no_place(self):
        for place in (-1, 3, 4, 2 ** 80, -2 ** 80):
            error = raised(self, NoPlace, lambda: stays(self, [ONE, PATTERN], lambda: has_pattern(ONE, place, PATTERN)))
            self.assertIs(error.place, place)


class PatternOfTest(unittest.TestCase):
    def test_against_a_slow_reckoning(self):
        deepest = 0
        for _, one, other in some_programs(302, 300):
            ranks = slow_ranks(one, other)
            reached, there = slow_reached(one), slow_reached(other)
            for place, at in product(reached, there):
                pattern = stays(self, [one, other], lambda: pattern_of(one, place, other, at))
                if (place, at) not in ranks:
                    self.assertIsNone(pattern)
                    continue
                rank = ranks[(place, at)][0]
                self.assertTrue(slow_is_pattern(pattern))
                self.assertIs(is_pattern(pattern), True)
                self.assertEqual(slow_depth(pattern), rank)
                self.assertLessEqual(len(pattern), len(reached) * len(there) + 1)
                self.assertTrue(slow_has(one, place, pattern))
                self.assertFalse(slow_has(other, at, pattern))
                deepest = max(deepest, rank)
        self.assertGreater(deepest, 3)

    def test_no_pattern_of_less_depth_does(self):
        for _, one, other in some_programs(303, 80, 3, 6):
            both = one + other
            ranks = slow_ranks(one, other)
            for place, at in product(slow_reached(one), slow_reached(other)):
                rank = ranks[(place, at)][0] if (place, at) in ranks else 4
                for depth in range(min(rank, 4) + 1):
                    parted = any(place in some and one.places + at not in some for some in had_sets(both, depth))
                    self.assertEqual(parted, (place, at) in ranks and depth >= rank)

    def test_the_rank_of_a_begin_place(self):
        self.assertEqual(pattern_of(ONE, 0, OTHER, 1), [(True, ())])
        self.assertIsNone(pattern_of(ONE, 0, OTHER, 0))

    def test_no_edge_at_all(self):
        one, other = line_program(("a", "b")), Program(1, [0], [])
        pattern = pattern_of(one, 2, other, 0)
        self.assertEqual([pattern_depth(pattern), has_pattern(one, 2, pattern), has_pattern(other, 0, pattern)],
                         [1, True, False])
        self.assertIs(is_pattern(pattern), True)

    def test_few_items_for_many_pairs(self):
        # The statement leads on from all places: a pattern that repeats its items would grow twofold with each rank.
        one = Program(2, [0], [(0, "a", 1), (1, "a", 1)])
        edges = [(2 * at + i, "a", 2 * at + 2 + j) for at in range(20) for i in range(2) for j in range(2)]
        other = Program(42, list(range(42)), edges)
        pattern = pattern_of(one, 1, other, 41)
        self.assertEqual(pattern_depth(pattern), 21)
        self.assertLessEqual(len(pattern), 85)
        self.assertTrue(has_pattern(one, 1, pattern))
        self.assertFalse(has_pattern(other, 41, pattern))
        program, place = shown_program(one, 1, other, 41)
        self.assertFalse(has_loop(program))
        self.assertEqual([is_within(program, place, one, 1), is_within(program, place, other, 41)], [True, False])

    def test_results_are_new(self):
        asked_again(self, lambda: pattern_of(ONE, 2, OTHER, 3))
        asked_again(self, lambda: shown_program(ONE, 2, OTHER, 3))


class ShownProgramTest(unittest.TestCase):
    def test_against_a_slow_reckoning(self):
        shown = 0
        for _, one, other in some_programs(304, 250):
            pairs = slow_follow(one, other)
            for place, at in product(slow_reached(one), slow_reached(other)):
                told = stays(self, [one, other], lambda: shown_program(one, place, other, at))
                if (place, at) in pairs:
                    self.assertIsNone(told)
                    continue
                self.assertIs(type(told), tuple)
                program, its = told
                self.assertIs(type(program), Program)
                self.assertIs(type(its), int)
                self.assertFalse(has_loop(program))
                self.assertIn(its, slow_reached(program))
                self.assertIn((its, place), slow_follow(program, one))
                self.assertNotIn((its, at), slow_follow(program, other))
                shown += program.places > 3
        self.assertGreater(shown, 100)

    def test_the_facts_of_the_mirror(self):
        told = 0
        for _, one, other in some_programs(305, 150, 4, 10):
            names = sorted(set(one.statements() + other.statements()))
            analysis, sets = mirror(other, names)
            if analysis is None:
                continue
            rows, facts, others = analysis.joins.rows(), facts_of(analysis, one), facts_of(analysis, other)
            for place, at in product(slow_reached(one), slow_reached(other)):
                within = is_within(one, place, other, at)
                self.assertEqual(at in sets[facts[place]], within)
                self.assertEqual(is_under(rows, facts[place], others[at]), within)
                if not within:
                    program, its = shown_program(one, place, other, at)
                    shown = facts_of(analysis, program)[its]
                    self.assertTrue(is_under(rows, shown, facts[place]))
                    self.assertFalse(is_under(rows, shown, others[at]))
                    told += 1
        self.assertGreater(told, 200)

    def test_what_is_not_begun_by_a_pattern_is_reached(self):
        # All ranks rest on edges that are lacking: the pattern asks for no begin place, but a program needs one.
        one = line_program(("a", "b", "c", "d"))
        other = Program(1, [0], [(0, "a", 0), (0, "b", 0), (0, "c", 0)])
        program, place = shown_program(one, 4, other, 0)
        self.assertEqual([is_within(program, place, one, 4), is_within(program, place, other, 0)], [True, False])
        self.assertIn(place, program.reached())
        wide = Program(5, [0], [(0, "a", 1), (0, "b", 2), (1, "c", 3), (2, "c", 4), (3, "d", 4), (4, "d", 4)])
        program, place = shown_program(wide, 4, other, 0)
        self.assertFalse(has_loop(program))
        self.assertEqual([is_within(program, place, wide, 4), is_within(program, place, other, 0)], [True, False])

    def test_great_programs(self):
        loop = Program(2, [0], [(0, "a", 1), (1, "a", 1)])
        line = line_program(("a",) * 300).with_begins(list(range(301)))
        program, place = shown_program(loop, 1, line, 300)
        self.assertFalse(has_loop(program))
        self.assertEqual([is_within(program, place, loop, 1), is_within(program, place, line, 300)], [True, False])


if __name__ == "__main__":
    unittest.main()
