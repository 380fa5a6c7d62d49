"""[92], where it speaks of meanings, and [93]: best values and the best analysis."""

import unittest
from itertools import product

from factflows.analyses import Analysis
from factflows.best import are_meanings, best_of, best_value
from factflows.facts import facts_of
from factflows.joins import Joins, chain_joins, rising_maps, union_joins
from factflows.machines import Machine
from factflows.sound import just_for, sound_for
from tests.helper import (Dice, FORK, asked_again, fork, is_under, odd_values, slow_are_under, some_machine, some_meanings,
                          some_program, some_rising, some_rows, spoilt, stays, toggle)

MEANINGS = [(), (0,), (1,), (0, 1)]


def slow_are_meanings(joins, machine, thing):
    if type(thing) is not list or len(thing) != len(joins):
        return False
    for some in thing:
        if type(some) is not tuple or any(type(state) is not int or not 0 <= state < machine.states for state in some):
            return False
        if list(some) != sorted(set(some)):
            return False
    rows = joins.rows()
    return all(set(thing[u]) <= set(thing[v]) for u, v in product(range(len(rows)), repeat=2) if is_under(rows, u, v))


def slow_best(joins, meanings, some):
    rows = joins.rows()
    fitting = [value for value, meant in enumerate(meanings) if set(some) <= set(meant)]
    least = [value for value in fitting if all(is_under(rows, value, other) for other in fitting)]
    return least[0] if least else None


def slow_best_of(joins, meanings, machine):
    def leads(some, name):
        return {b for a, b in machine.moves(name) if a in some}
    begin = slow_best(joins, meanings, machine.firsts())
    maps = {name: [slow_best(joins, meanings, leads(meant, name)) for meant in meanings] for name in machine.statements()}
    if begin is None or any(value is None for values in maps.values() for value in values):
        return None
    return Analysis(joins, maps, begin=begin)


def some_trials(seed, many, names=("b", "a"), most=6, most_states=3):
    """Joins with meanings and machines: drawn, or with all sets of states in some order."""
    dice = Dice(seed)
    for at in range(many):
        machine = some_machine(dice, names, most_states)
        if at % 3 == 0:
            order = dice.shuffled(range(1 << machine.states))
            joins = union_joins(machine.states).moved(order)
            sets = [tuple(state for state in range(machine.states) if order.index(value) >> state & 1)
                    for value in range(len(joins))]
            yield dice, joins, sets, machine
        else:
            joins = Joins(some_rows(dice, most))
            meanings = some_meanings(dice, joins, machine)
            if at % 3 == 1:
                meanings[joins.top()] = tuple(range(machine.states))
            yield dice, joins, meanings, machine


class ExamplesTest(unittest.TestCase):
    def test_as_written(self):
        good = best_of(union_joins(2), MEANINGS, toggle())
        self.assertEqual([best_value(union_joins(2), MEANINGS, []), good.begin, good.map_of("inc"), good.map_of("set")],
                         [0, 1, [0, 2, 3, 3], [0, 1, 1, 1]])
        self.assertEqual([sound_for(good, MEANINGS, toggle()), just_for(good, MEANINGS, toggle())],
                         [("sound", [(1, 0), (2, 1), (3, 0), (3, 1)]), ("just", [(1, (0,)), (2, (1,)), (3, (0, 1))])])


class AreMeaningsTest(unittest.TestCase):
    def check(self, joins, machine, thing):
        told = stays(self, [joins, machine, thing], lambda: are_meanings(joins, machine, thing))
        self.assertIs(told, slow_are_meanings(joins, machine, thing))
        return told

    def test_right_and_spoilt_ones(self):
        right = wrong = 0
        for dice, joins, meanings, machine in some_trials(940, 400):
            self.assertIs(self.check(joins, machine, meanings), True)
            for _ in range(8):
                told = self.check(joins, machine, spoilt(dice, meanings))
                right, wrong = right + told, wrong + (not told)
            drawn = [tuple(state for state in range(machine.states) if dice.below(2)) for _ in range(len(joins))]
            self.check(joins, machine, drawn)
        self.assertGreater(wrong, 1000)
        self.assertGreater(right, 100)

    def test_small_spoils(self):
        machine = Machine(3, [0], {})
        right = [(0,), (1, 2), (0, 1, 2)]
        for thing, wanted in [(right, True), (tuple(right), False), ([(), (), ()], True), ([(0,), (1,), (0,)], False),
                              ([(0,), (1,), (1, 2)], False), ([(0,), (1,), (0, 1)], True), (right[:2], False),
                              (right + [(0, 1, 2)], False), ([[0], (1, 2), (0, 1, 2)], False),
                              ([(0,), (2, 1), (0, 1, 2)], False), ([(0, 0), (1, 2), (0, 1, 2)], False),
                              ([(False,), (1, 2), (0, 1, 2)], False), ([(0,), (True, 2), (0, 1, 2)], False),
                              ([(0,), (1, 3), (0, 1, 2)], False), ([(-1,), (1, 2), (0, 1, 2)], False),
                              ([(0,), (1, 2), (0, 1, 2, 3)], False), ([0, (1, 2), (0, 1, 2)], False),
                              ([None, (1, 2), (0, 1, 2)], False), ([(0,), (1, 2), (0, 1, 2 ** 80)], False),
                              ([(0,), (1, 2), "012"], False), ([("0",), (1, 2), (0, 1, 2)], False),
                              (dict(enumerate(right)), False), ([], False), (None, False)]:
            self.assertIs(self.check(fork(), machine, thing), wanted)

    def test_other_values(self):
        for thing in odd_values():
            for joins, machine in ((fork(), Machine(3, [0], {})), (Joins([[0]]), Machine(1, [0], {}))):
                self.check(joins, machine, thing)
                self.check(joins, machine, [thing] * len(joins))
                self.check(joins, machine, [(), (), (thing,)])
                self.check(joins, machine, [()] * (len(joins) - 1) + [(0, thing)])
            self.assertIs(are_meanings(fork(), Machine(3, [0], {}), thing), False)


class BestValueTest(unittest.TestCase):
    def test_against_a_slow_reckoning(self):
        counts = {"none": 0, "no least": 0, "one": 0}
        for dice, joins, meanings, machine in some_trials(941, 400, most=8):
            for some in [list(some) for length in range(3) for some in product(range(machine.states), repeat=length)]:
                told = stays(self, [joins, meanings, some], lambda: best_value(joins, meanings, some))
                self.assertEqual(told, slow_best(joins, meanings, some))
                self.assertEqual(best_value(joins, meanings, dice.shuffled(some + some)), told)
                fitting = [value for value, meant in enumerate(meanings) if set(some) <= set(meant)]
                counts["one" if told is not None else "no least" if fitting else "none"] += 1
        self.assertGreater(min(counts.values()), 100)

    def test_edges(self):
        meanings = [(0,), (0, 1), (0, 1, 2)]
        for some, wanted in [([], None), ([0], None), ([1], 1), ([0, 1], 1), ([1, 0, 1], 1), ([2], 2), ([0, 2, 1, 1], 2)]:
            self.assertEqual(best_value(fork(), meanings, some), wanted)
        self.assertEqual(best_value(chain_joins(3), meanings, []), 0)
        # Values that mean the same: the one below the others.
        self.assertEqual(best_value(Joins(FORK).moved([1, 2, 0]), [(0,), (), (0,)], [0]), 2)
        self.assertEqual(best_value(chain_joins(3).moved([2, 1, 0]), [(0,)] * 3, [0]), 2)
        self.assertIsNone(best_value(chain_joins(2), [(), (0,)], [1]))
        self.assertIsNone(best_value(Joins([[0]]), [()], [0]))


class BestOfTest(unittest.TestCase):
    def test_against_a_slow_reckoning(self):
        counts = {True: 0, False: 0}
        for _, joins, meanings, machine in some_trials(942, 600):
            told = stays(self, [joins, meanings, machine], lambda: best_of(joins, meanings, machine))
            self.assertEqual(told, slow_best_of(joins, meanings, machine))
            counts[told is not None] += 1
            if told is not None:
                self.assertEqual(sound_for(told, meanings, machine)[0], "sound")
        self.assertGreater(min(counts.values()), 100)

    def test_the_facts_are_below_those_by_others(self):
        compared = less = 0
        for dice, joins, meanings, machine in some_trials(943, 300, most=4):
            best = best_of(joins, meanings, machine)
            if best is None or len(joins) > 5:
                continue
            for other in self.others(dice, joins, meanings, machine):
                self.assertEqual(sound_for(other, meanings, machine)[0], "sound")
                for _ in range(2):
                    program = some_program(dice, machine.statements())
                    ours, theirs = facts_of(best, program), facts_of(other, program)
                    self.assertTrue(slow_are_under(joins.rows(), ours, theirs))
                    compared, less = compared + 1, less + (ours != theirs)
        self.assertGreater(compared, 150)
        self.assertGreater(less, 30)

    def others(self, dice, joins, meanings, machine):
        """Analyses as [93] asks for: what they do always means all that is led to."""
        fitting = {name: [values for values in rising_maps(joins) if all(
            set(machine.step(list(meant), name)) <= set(meanings[value]) for meant, value in zip(meanings, values))]
                   for name in machine.statements()}
        begins = [value for value, meant in enumerate(meanings) if set(machine.firsts()) <= set(meant)]
        return [Analysis(joins, {name: dice.pick(maps) for name, maps in fitting.items()}, begin=dice.pick(begins))
                for _ in range(4)]

    def test_none_just_where_one_is_lacking(self):
        machine = Machine(2, [0], {"a": [(0, 1)]})
        # No value means the first state; none means where the statement leads; two that do, none of them below the other.
        self.assertIsNone(best_of(chain_joins(2), [(), (1,)], machine))
        self.assertIsNone(best_of(chain_joins(2), [(), (0,)], machine))
        self.assertIsNone(best_of(fork(), [(0, 1), (0, 1), (0, 1)], machine))
        self.assertEqual(best_of(chain_joins(2), [(), (0, 1)], machine), Analysis(chain_joins(2), {"a": [0, 1]}, begin=1))
        # Values that do not come count, too.
        lacking = Machine(2, [0], {"a": [(1, 1)]})
        self.assertIsNone(best_of(fork(), [(0,), (1,), (0, 1)], lacking))
        self.assertEqual(best_of(Joins([[0]]), [(0,)], Machine(1, [0], {})), Analysis(Joins([[0]]), {}))
        self.assertIsNone(best_of(Joins([[0]]), [()], Machine(1, [0], {})))

    def test_of_values_that_mean_all_sets(self):
        """With a value for each set of states nothing is lost: it is just."""
        dice = Dice(944)
        for _ in range(60):
            machine = some_machine(dice, ["a", "b"], 3)
            sets = [tuple(at for at in range(machine.states) if value >> at & 1) for value in range(1 << machine.states)]
            self.assertEqual(just_for(best_of(union_joins(machine.states), sets, machine), sets, machine)[0], "just")

    def test_other_analyses_are_sound_only_if_above(self):
        dice = Dice(945)
        for _, joins, meanings, machine in some_trials(946, 100):
            best = best_of(joins, meanings, machine)
            if best is not None:
                for name in machine.statements():
                    values = some_rising(dice, joins.rows())
                    other = best.with_map(name, values)
                    above = all(joins.is_below(u, v) for u, v in zip(best.map_of(name), values))
                    if above:
                        self.assertEqual(sound_for(other, meanings, machine)[0], "sound")

    def test_results_are_new(self):
        asked_again(self, lambda: best_of(union_joins(2), MEANINGS, toggle()).map_of("inc"))


if __name__ == "__main__":
    unittest.main()
