"""[54]: the words of paths to two places, compared; [7]."""

import unittest
from itertools import product

from factflows.analyses import Analysis
from factflows.errors import NoPlace, TooMany
from factflows.facts import facts_of
from factflows.joins import Joins
from factflows.programs import Program, line_program
from factflows.words import are_word_rows, compare_words, has_word
from tests.helper import (Dice, asked_again, is_under, keeping_analysis, odd_values, places_behind, raised, slow_reached,
                          some_program, some_programs, spoilt, stays)
from tests.test_follows import ONE, OTHER


def moved_places(program, places, name):
    return tuple(sorted({n for m, s, n in program.edges() if s == name and m in places}))


def rows_behind(one, other, row):
    return [(n, moved_places(other, row[1], s)) for m, s, n in one.edges() if m == row[0]]


def slow_rows(one, other):
    rows = {(place, tuple(sorted(set(other.begins())))) for place in one.begins()}
    while True:
        more = rows | {to for row in rows for to in rows_behind(one, other, row)}
        if more == rows:
            return sorted(rows)
        rows = more


def slow_parting_word(one, place, other, there, longest):
    """The first word, shorter ones ahead, of a path to place that no path to there has."""
    waiting = [((), tuple(one.begins()), tuple(other.begins()))]
    for _ in range(longest + 1):
        for word, ours, theirs in waiting:
            if place in ours and there not in theirs:
                return word
        waiting = [(word + (s,), moved_places(one, ours, s), moved_places(other, theirs, s))
                   for word, ours, theirs in waiting for s in one.statements()]
        waiting = [row for row in waiting if row[1]]
    return None


def slow_are_rows(one, place, other, there, thing):
    if type(thing) is not list:
        return False
    for row in thing:
        if type(row) is not tuple or len(row) != 2 or type(row[0]) is not int or not 0 <= row[0] < one.places:
            return False
        if type(row[1]) is not tuple or any(type(n) is not int or not 0 <= n < other.places for n in row[1]):
            return False
        if list(row[1]) != sorted(set(row[1])) or row[0] == place and there not in row[1]:
            return False
    if len(set(thing)) != len(thing) or any((b, tuple(other.begins())) not in thing for b in one.begins()):
        return False
    return all(to in thing for row in thing for to in rows_behind(one, other, row))


def word_analysis(word, names):
    """The word mirror [81] of a word, over all sets."""
    digits = len(word) + 1
    maps = {name: [sum(1 << at + 1 for at in range(len(word)) if value >> at & 1 and word[at] == name)
                   for value in range(1 << digits)] for name in names}
    return Analysis(Joins([[u | v for v in range(1 << digits)] for u in range(1 << digits)]), maps, begin=1)


class ExamplesTest(unittest.TestCase):
    def test_as_written(self):
        self.assertEqual(compare_words(ONE, 2, OTHER, 3), ("within", [(0, (0,)), (1, (1,)), (1, (2,)), (2, (3,))]))


class HasWordTest(unittest.TestCase):
    def test_against_a_slow_reckoning(self):
        dice, had = Dice(400), 0
        for _ in range(250):
            program = some_program(dice, ["a", "b"], 4, 8)
            for place, length in product(range(program.places), range(4)):
                for word in product(["a", "b", "c"], repeat=length):
                    told = stays(self, [program], lambda: has_word(program, place, word))
                    self.assertIs(told, place in places_behind(program, word))
                    had += told
        self.assertGreater(had, 500)

    def test_edges(self):
        program = Program(3, [0, 2], [(0, "a", 0), (1, "b", 0)])
        self.assertEqual([has_word(program, place, ()) for place in range(3)], [True, False, True])
        self.assertIs(has_word(program, 0, ("a",) * 40), True)
        self.assertIs(has_word(program, 0, ("a",) * 40 + ("b",)), False)
        self.assertIs(has_word(program, 1, ()), False)
        self.assertIs(has_word(line_program(("a", "b") * 20), 40, ("a", "b") * 20), True)

    def test_no_place(self):
        for place in (-1, 3, 4, 2 ** 80, -2 ** 80):
            for word in ((), ("a",)):
                self.assertIs(raised(self, NoPlace, lambda: has_word(ONE, place, word)).place, place)


class CompareWordsTest(unittest.TestCase):
    def test_against_a_slow_reckoning(self):
        within = parted = 0
        for _, one, other in some_programs(401, 400):
            rows = slow_rows(one, other)
            for place, there in product(slow_reached(one), slow_reached(other)):
                told = stays(self, [one, other], lambda: compare_words(one, place, other, there))
                self.assertIs(type(told), tuple)
                word = slow_parting_word(one, place, other, there, 5)
                if any(m == place and there not in places for m, places in rows):
                    self.assertEqual(told[0], "parted")
                    if word is not None:
                        self.assertEqual(told[1], word)
                    self.assertGreater(len(told[1]), 5 if word is None else -1)
                    self.assertTrue(has_word(one, place, told[1]))
                    self.assertFalse(has_word(other, there, told[1]))
                    parted += len(told[1]) > 1
                else:
                    self.assertIsNone(word)
                    self.assertEqual(told, ("within", rows))
                    within += len(rows) > 2
        self.assertGreater(min(within, parted), 100)

    def test_long_words(self):
        # Loops of 2, 3 and 5 edges: only words whose length 30 divides are not among those of the others.
        one = Program(1, [0], [(0, "a", 0)])
        edges, begins = [], []
        for first, many in ((0, 2), (2, 3), (5, 5)):
            begins.append(first)
            edges += [(first + at, "a", first + (at + 1) % many) for at in range(many)]
            edges += [(first + at, "a", 10) for at in range(many) if at != many - 1]
        other = Program(11, begins + [10], edges)
        self.assertEqual(compare_words(one, 0, other, 10), ("parted", ("a",) * 30))
        self.assertEqual(compare_words(one, 0, other, 10, most=31), ("parted", ("a",) * 30))
        self.assertEqual(raised(self, TooMany, lambda: compare_words(one, 0, other, 10, most=30)).limit, 30)

    def test_the_least_of_the_shortest_words(self):
        # Two begin places, and two places behind "a": the least word is not the one by the least places.
        one = Program(6, [0, 1], [(0, "a", 2), (1, "a", 3), (2, "c", 4), (3, "b", 4), (2, "b", 5), (3, "a", 5)])
        nothing = Program(1, [0], [])
        self.assertEqual([compare_words(one, place, nothing, 0)[1] for place in (4, 5)], [("a", "b"), ("a", "a")])
        wide = Program(8, [0], [(0, "b", 1), (0, "a", 2), (1, "a", 3), (2, "b", 4), (3, "a", 5), (4, "c", 5),
                                (2, "a", 6), (6, "c", 7), (4, "a", 7), (3, "a", 7)])
        self.assertEqual([compare_words(wide, place, nothing, 0)[1] for place in (5, 7)],
                         [("a", "b", "c"), ("a", "a", "c")])
        self.assertEqual(compare_words(nothing, 0, ONE, 1), ("parted", ()))

    def test_just_as_many_as_needed_and_less_by_one(self):
        for dice, one, other in some_programs(402, 150):
            many = len(slow_rows(one, other))
            place, there = dice.pick(slow_reached(one)), dice.pick(slow_reached(other))
            told = compare_words(one, place, other, there)
            self.assertEqual(compare_words(one, place, other, there, most=many), told)
            for most in sorted({1, many - 1} - {0}):
                if most < many:
                    call = lambda: stays(self, [one, other], lambda: compare_words(one, place, other, there, most=most))
                    self.assertEqual(raised(self, TooMany, call).limit, most)

    def test_too_many_whatever_it_would_return(self):
        # The empty word parts them, but there are 12 rows.
        line = line_program(("a",) * 11)
        other = Program(2, [0], [(0, "a", 1), (1, "a", 1)])
        self.assertEqual(compare_words(line, 0, other, 1, most=12), ("parted", ()))
        limit = 11
        self.assertIs(raised(self, TooMany, lambda: compare_words(line, 0, other, 1, most=limit)).limit, limit)
        # Rows for places that lead nowhere count, too; places that are not reached have none.
        self.assertEqual(len(compare_words(line, 0, other, 0, most=12)[1]), 12)
        self.assertEqual(len(compare_words(line + line_program(("b",)).kept([0]), 0, other, 0, most=13)[1]), 13)

    def test_the_usual_most(self):
        # Ten places of which each may be lit or not: 1,024 sets.
        edges = [(at, s, at + 1) for at in range(1, 10) for s in "ab"] + [(at, "b", 1) for at in range(11)]
        edges += [(0, s, 0) for s in "ab"]
        other = Program(11, [0], edges + [(0, "b", 1)])
        one = Program(1, [0], [(0, "a", 0), (0, "b", 0)])
        self.assertEqual(len(slow_rows(one, other)), 1024)
        self.assertEqual(raised(self, TooMany, lambda: compare_words(one, 0, other, 0)).limit, 1000)
        told = compare_words(one, 0, other, 0, most=1024)
        self.assertEqual(told, ("within", slow_rows(one, other)))
        self.assertEqual(compare_words(one, 0, other, 10, most=2000), ("parted", ()))

    def test_statements_that_only_one_has(self):
        one = Program(2, [0], [(0, "a", 1), (0, "b", 1)])
        other = Program(2, [0], [(0, "a", 1)])
        self.assertEqual(compare_words(one, 1, other, 1), ("parted", ("b",)))
        self.assertEqual(compare_words(other, 1, one, 1), ("within", [(0, (0,)), (1, (1,))]))
        self.assertEqual(compare_words(one, 0, other, 0), ("within", [(0, (0,)), (1, ()), (1, (1,))]))

    def test_results_are_new(self):
        asked_again(self, lambda: compare_words(ONE, 2, OTHER, 3))
        asked_again(self, lambda: compare_words(OTHER, 2, ONE, 0))


class FactsTest(unittest.TestCase):
    """[7]"""

    def test_analyses_that_keep_joins(self):
        dice, within = Dice(403), 0
        for _, one, other in some_programs(404, 250):
            names = sorted(set(one.statements() + other.statements()))
            analyses = [keeping_analysis(dice, names) for _ in range(3)]
            for place, there in product(slow_reached(one), slow_reached(other)):
                told = compare_words(one, place, other, there)
                if told[0] == "parted" and len(told[1]) <= 5:
                    parting = word_analysis(told[1], names)
                    self.assertIsNone(parting.unkept())
                    fact, its = facts_of(parting, one)[place], facts_of(parting, other)[there]
                    self.assertFalse(is_under(parting.joins.rows(), fact, its))
                if told[0] == "within":
                    for analysis in analyses:
                        fact, its = facts_of(analysis, one)[place], facts_of(analysis, other)[there]
                        self.assertTrue(is_under(analysis.joins.rows(), fact, its))
                        within += 1
        self.assertGreater(within, 300)


class AreWordRowsTest(unittest.TestCase):
    def check(self, one, place, other, there, thing, wanted):
        told = stays(self, [one, other, thing], lambda: are_word_rows(one, place, other, there, thing))
        self.assertIs(told, wanted)

    def test_rows_and_spoilt_rows(self):
        right = wrong = 0
        for dice, one, other in some_programs(405, 300):
            rows = slow_rows(one, other)
            for place, there in product(slow_reached(one), slow_reached(other)):
                within = compare_words(one, place, other, there)[0] == "within"
                self.check(one, place, other, there, dice.shuffled(rows), within)
                if within:
                    for _ in range(6):
                        thing = spoilt(dice, dice.shuffled(rows))
                        wanted = slow_are_rows(one, place, other, there, thing)
                        self.check(one, place, other, there, thing, wanted)
                        right, wrong = right + wanted, wrong + (not wanted)
        self.assertGreater(wrong, 1000)
        self.assertGreater(right, 20)

    def test_more_rows_than_come(self):
        one = Program(3, [0], [(0, "a", 1), (2, "a", 1)])
        other = Program(3, [0], [(0, "a", 1), (0, "b", 2)])
        rows = [(0, (0,)), (1, (1,))]
        for more, wanted in [([], True), ([(1, (0, 1, 2))], True), ([(1, (0, 2))], False), ([(0, (0, 2))], True),
                             ([(0, (2,))], False), ([(0, (2,)), (1, ())], False), ([(2, (0, 2))], True),
                             ([(2, ())], False), ([(0, (1,))], False), ([(2, (0, 1, 2))], True)]:
            self.check(one, 1, other, 1, rows + more, wanted)
        self.check(one, 0, other, 0, rows + [(2, ()), (1, ())], True)
        self.check(one, 0, other, 0, rows + [(0, (2,)), (1, ())], False)

    def test_small_spoils(self):
        rows = [(0, (0,)), (1, (1,)), (1, (2,)), (2, (3,))]
        self.check(ONE, 2, OTHER, 3, rows, True)
        for at in range(4):
            self.check(ONE, 2, OTHER, 3, rows[:at] + rows[at + 1:], False)
            self.check(ONE, 2, OTHER, 3, rows + [rows[at]], False)
            self.check(ONE, 2, OTHER, 3, rows[:at] + [list(rows[at])] + rows[at + 1:], False)
            self.check(ONE, 2, OTHER, 3, rows[:at] + [(rows[at][0], list(rows[at][1]))] + rows[at + 1:], False)
        self.check(ONE, 2, OTHER, 3, [(False, (0,))] + rows[1:], False)
        self.check(ONE, 2, OTHER, 3, [(0, (False,))] + rows[1:], False)
        self.check(ONE, 2, OTHER, 3, rows + [(2, (1, 3))], True)
        for row in [(2, (3, 1)), (2, (3, 3)), (2, (1, 3, 4)), (2, (-1, 3)), (3, (3,)), (-1, (3,)), (2 ** 80, (3,)),
                    (2, (3, 2 ** 80)), (2, (3,), 0), (2,), (), None, (2, None), (None, (3,)), (2, 3), ("2", (3,)),
                    (2, ("3",)), (2, (True, 3)), (2, (None,)), (2, ([3],)), (2, {3: 1}), (2, "3")]:
            self.check(ONE, 2, OTHER, 3, rows + [row], False)
            self.check(ONE, 2, OTHER, 3, [row] + rows, False)

    def test_other_values(self):
        rows = [(0, (0,)), (1, (1,)), (1, (2,)), (2, (3,))]
        for thing in odd_values():
            self.check(ONE, 2, OTHER, 3, thing, False)
            self.check(ONE, 2, OTHER, 3, rows + [thing], False)
            self.check(ONE, 2, OTHER, 3, rows + [(0, thing)], False)
        self.check(ONE, 2, OTHER, 3, tuple(rows), False)
        self.check(ONE, 2, OTHER, 3, dict.fromkeys(rows), False)


if __name__ == "__main__":
    unittest.main()
