"""[14], and what [30] and [31] say of programs: which values come, and the facts by analyses that are made of others."""

import unittest
from itertools import product

from factflows.analyses import Analysis
from factflows.facts import facts_of, is_solution
from factflows.joins import Joins, first_fall, first_loss, rising_maps, union_joins
from factflows.paths import lost, path_fact, path_values, word_to, words_to
from factflows.programs import Program
from factflows.rises import is_rise, rise_of
from tests.helper import Dice, keeping_analysis, some_analysis, some_program, some_rows, swept_facts
from tests.test_facts import NAMES, trials


def known():
    return Analysis(union_joins(2), {"a": [1, 1, 1, 1], "b": [2, 2, 2, 2], "t": [0, 1, 1, 3]})


def places_with(analysis):
    """For each value that comes, a program and a place of it that has the value as its fact."""
    found = {analysis.begin: (Program(1, [0], []), 0)}
    while True:
        more = dict(found)
        for name, value in product(analysis.statements(), found):
            program, place = found[value]
            edges = [*program.edges(), (place, name, program.places)]
            made = Program(program.places + 1, program.begins(), edges)
            more.setdefault(analysis.map_of(name)[value], (made, program.places))
        for one, other in product(found, repeat=2):
            more.setdefault(analysis.joins.join(one, other), joined_place(found[one], found[other]))
        if len(more) == len(found):
            return found
        found = more


def joined_place(one, other):
    """A program with a place to which all leads that leads to a place of one or to one of other."""
    program, place, there = one[0] + other[0], one[1], one[0].places + other[1]
    last = program.places
    edges = program.edges() + [(m, s, last) for m, s in program.into(place) + program.into(there)]
    begins = program.begins() + [last for asked in (place, there) if asked in program.begins()]
    return Program(last + 1, begins, edges), last


class ComingTest(unittest.TestCase):
    def test_each_value_that_comes_is_a_fact(self):
        dice = Dice(90)
        for at in range(60):
            one = keeping_analysis(dice, ["a", "b"]) if at % 3 == 0 else some_analysis(dice, ["a", "b"])
            found = places_with(one)
            self.assertEqual(sorted(found), one.coming())
            for value, (program, place) in found.items():
                self.assertEqual(facts_of(one, program)[place], value)

    def test_each_fact_comes(self):
        for _, one, program in trials(91, 300):
            coming = one.coming()
            for fact in facts_of(one, program):
                self.assertTrue(fact is None or fact in coming)


class MadeTest(unittest.TestCase):
    def test_product(self):
        dice = Dice(92)
        for _ in range(150):
            one, other = some_analysis(dice, NAMES), keeping_analysis(dice, NAMES)
            program = some_program(dice, NAMES)
            both = facts_of(one * other, program)
            for fact, ours, theirs in zip(both, facts_of(one, program), facts_of(other, program)):
                self.assertEqual(fact, None if ours is None else ours * len(other) + theirs)

    def test_restricted(self):
        for _, one, program in trials(93, 200):
            other, values = one.restricted()
            told = [None if fact is None else values[fact] for fact in facts_of(other, program)]
            self.assertEqual(told, facts_of(one, program))
            self.assertEqual(other.coming(), list(range(len(values))))

    def test_with_map_and_without(self):
        for _, one, program in trials(94, 100):
            facts = facts_of(one, program)
            more = one.with_map("other", [one.joins.top()] * len(one))
            self.assertEqual(facts_of(more, program), facts)
            less = one.without([name for name in one.statements() if name not in program.statements()])
            self.assertEqual(facts_of(less, program), facts)


class ExchangesTest(unittest.TestCase):
    """[14]"""

    def test_values(self):
        for dice, one, program in trials(95, 200):
            order = dice.shuffled(range(len(one)))
            to = {value: order[value] for value in range(len(one))}
            to[None] = None
            other = one.moved(order)
            facts = facts_of(one, program)
            self.assertEqual(facts_of(other, program), [to[fact] for fact in facts])
            solution = [None if fact is None else one.joins.top() for fact in facts]
            for values in (facts, solution, [None if fact is None else 0 for fact in facts]):
                self.assertIs(is_solution(other, program, [to[value] for value in values]),
                              is_solution(one, program, values))
            self.assertTrue(is_rise(other, program, rise_of(one, program)))
            self.assertEqual(lost(other, program), [(p, to[fact], to[path]) for p, fact, path in lost(one, program)])
            for place in range(program.places):
                values = path_values(one, program, place)
                self.assertEqual(path_values(other, program, place), sorted(to[value] for value in values))
                self.assertEqual(path_fact(other, program, place), to[path_fact(one, program, place)])
                for value in range(len(one)):
                    word = word_to(one, program, place, value)
                    self.assertEqual(word_to(other, program, place, to[value]), word)
            self.assertEqual(other.coming(), sorted(to[value] for value in one.coming()))
            words = sorted((to[value], word) for value, word in one.word_values())
            self.assertEqual(other.word_values(), words)

    def test_statements(self):
        changes = {"a": "b", "b": "ab", "ab": "a"}
        for _, one, program in trials(96, 150):
            other, there = one.renamed(changes), program.renamed(changes)
            self.assertEqual(facts_of(other, there), facts_of(one, program))
            self.assertEqual(lost(other, there), lost(one, program))
            steps = [(place, why if why == "begin" else (why[0], changes[why[1]]))
                     for place, why in rise_of(one, program)]
            self.assertTrue(is_rise(other, there, steps))
            for place in range(program.places):
                self.assertEqual(path_values(other, there, place), path_values(one, program, place))
                words = [tuple(changes[name] for name in word) for word in words_to(program, place, 3)]
                self.assertEqual(list(words_to(there, place, 3)), sorted(words))
                for value in path_values(one, program, place):
                    self.assertEqual(len(word_to(other, there, place, value)),
                                     len(word_to(one, program, place, value)))

    def test_places(self):
        for dice, one, program in trials(97, 200):
            order = dice.shuffled(range(program.places))
            there = program.moved(order)
            facts, moved = facts_of(one, program), facts_of(one, there)
            self.assertEqual([moved[order[place]] for place in range(program.places)], facts)
            self.assertEqual(lost(one, there), sorted((order[p], fact, path) for p, fact, path in lost(one, program)))
            self.assertEqual(there.reached(), sorted(order[place] for place in program.reached()))
            steps = [(order[place], why if why == "begin" else (order[why[0]], why[1]))
                     for place, why in rise_of(one, program)]
            self.assertTrue(is_rise(one, there, steps))
            for place in range(program.places):
                self.assertEqual(path_values(one, there, order[place]), path_values(one, program, place))
                self.assertEqual(path_fact(one, there, order[place]), path_fact(one, program, place))
                self.assertEqual(list(words_to(there, order[place], 3)), list(words_to(program, place, 3)))
                for value in range(len(one)):
                    self.assertEqual(word_to(one, there, order[place], value), word_to(one, program, place, value))

    def test_values_of_joins(self):
        dice = Dice(98)
        for _ in range(60):
            one = Joins(some_rows(dice, 6))
            order = dice.shuffled(range(len(one)))
            other = one.moved(order)
            self.assertEqual(other.covers(), sorted((order[u], order[v]) for u, v in one.covers()))
            self.assertEqual(other.parts(), sorted(order[u] for u in one.parts()))
            self.assertEqual((other.height(), other.top()), (one.height(), order[one.top()]))
            self.assertEqual(other.bottom(), None if one.bottom() is None else order[one.bottom()])
            for u, v in product(range(len(one)), repeat=2):
                meet = one.meet(u, v)
                self.assertEqual(other.meet(order[u], order[v]), None if meet is None else order[meet])
                self.assertIs(other.is_below(order[u], order[v]), one.is_below(u, v))
            if len(one) < 5:
                back = [order.index(at) for at in range(len(one))]
                moved = sorted([order[values[u]] for u in back] for values in rising_maps(one))
                self.assertEqual(list(rising_maps(other)), moved)
                for values in rising_maps(one):
                    there = [order[values[u]] for u in back]
                    self.assertIsNone(first_fall(other, there))
                    self.assertEqual(first_loss(other, there) is None, first_loss(one, values) is None)


class AllSmallProgramsTest(unittest.TestCase):
    """An analysis that loses, over all programs of two places, and over many of three."""

    def test_facts_and_path_facts(self):
        one = known()
        edges = list(product(range(2), "abt", range(2)))
        for number in range(0, 4096, 7):
            there = [edge for at, edge in enumerate(edges) if number >> at & 1]
            for begins in ([0], [0, 1]):
                program = Program(2, begins, there)
                facts = facts_of(one, program)
                self.assertEqual(facts, swept_facts(one, program))
                told = [(p, facts[p], path_fact(one, program, p)) for p in range(2)]
                self.assertEqual(lost(one, program), [row for row in told if row[1] != row[2]])

    def test_what_is_lost(self):
        program = Program(3, [0], [(0, "a", 1), (0, "b", 1), (1, "t", 2)])
        self.assertEqual(facts_of(known(), program), [0, 3, 3])
        self.assertEqual(lost(known(), program), [(2, 3, 1)])
        self.assertEqual(path_values(known(), program, 2), [1])
        self.assertEqual(word_to(known(), program, 2, 1), ("a", "t"))


if __name__ == "__main__":
    unittest.main()
