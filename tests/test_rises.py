"""[41]: rises."""

import unittest
from itertools import permutations, product

from factflows.analyses import Analysis
from factflows.errors import NoStatement
from factflows.facts import facts_of
from factflows.joins import chain_joins
from factflows.programs import Program, line_program
from factflows.rises import is_rise, rise_of
from tests.helper import fork, odd_values, parity, parity_program, spoil, stays, swept_facts
from tests.test_facts import trials


def slow_values(analysis, program, steps):
    """The values behind each step, or None if some step is none or is done too early."""
    rows = analysis.joins.rows()
    values, behind = {}, []
    for place, why in steps:
        if why == "begin":
            if place not in program.begins():
                return None
            brought = analysis.begin
        else:
            m, s = why
            if (m, s, place) not in program.edges() or m not in values:
                return None
            brought = analysis.do((s,), value=values[m])
        values[place] = rows[values[place]][brought] if place in values else brought
        behind.append([values.get(at) for at in range(program.places)])
    return behind


def slow_is_rise(analysis, program, steps):
    behind = slow_values(analysis, program, steps)
    return bool(behind) and behind[-1] == swept_facts(analysis, program)


def steps_of(program):
    return [(place, "begin") for place in program.begins()] + [(n, (m, s)) for m, s, n in program.edges()]


class ExamplesTest(unittest.TestCase):
    def test_as_written(self):
        one, program = parity(), parity_program()
        steps = [(0, "begin"), (1, (0, "flip")), (1, (0, "even")), (2, (1, "even"))]
        told = [is_rise(one, program, steps), is_rise(one, program, steps[:2] + steps[3:] + steps[2:3]),
                len(rise_of(one, program)) > 3]
        self.assertEqual(told, [True, False, True])


class RiseOfTest(unittest.TestCase):
    def test_each_step_changes_what_its_place_has(self):
        for _, one, program in trials(70, 400):
            steps = stays(self, [one, program], lambda: rise_of(one, program))
            self.assertIs(type(steps), list)
            self.assertTrue(all(type(step) is tuple for step in steps))
            behind = slow_values(one, program, steps)
            self.assertIsNotNone(behind)
            before = [None] * program.places
            for (place, _), values in zip(steps, behind):
                self.assertNotEqual(values[place], before[place])
                before = values
            self.assertEqual(before, swept_facts(one, program))
            self.assertIs(is_rise(one, program, steps), True)
            self.assertEqual(rise_of(one, program), steps)

    def test_results_are_new(self):
        one, program = parity(), parity_program()
        told = rise_of(one, program)
        wanted = list(told)
        spoil(told)
        self.assertEqual(rise_of(one, program), wanted)

    def test_great_programs(self):
        one = Analysis(chain_joins(12), {"a": [min(u + 1, 11) for u in range(12)]})
        line = line_program(("a",) * 1999).with_edges([(1999, "a", 0)])
        steps = rise_of(one, line)
        self.assertIs(is_rise(one, line, steps), True)
        self.assertIs(is_rise(one, line, steps[:-1]), False)


class IsRiseTest(unittest.TestCase):
    def check(self, one, program, thing, wanted):
        told = stays(self, [one, program, thing], lambda: is_rise(one, program, thing))
        self.assertIs(told, wanted)

    def test_rises_spoilt(self):
        for dice, one, program in trials(71, 250):
            steps = rise_of(one, program)
            every = steps_of(program)
            for _ in range(8):
                spoilt = list(steps)
                for _ in range(1 + dice.below(2)):
                    at = dice.below(len(spoilt) + 1)
                    kind = dice.below(4)
                    if kind == 0:
                        del spoilt[at:at + 1]
                    elif kind == 1:
                        spoilt.insert(at, dice.pick(every))
                    elif kind == 2 and at < len(spoilt):
                        spoilt[at] = dice.pick(every)
                    elif at < len(spoilt):
                        spoilt.append(spoilt.pop(at))
                self.check(one, program, spoilt, slow_is_rise(one, program, spoilt))

    def test_steps_in_all_orders(self):
        one = Analysis(fork(), {"a": [1, 0, 2], "b": [0, 0, 2]})
        program = Program(3, [0, 2], [(0, "a", 1), (0, "b", 1), (1, "b", 2)])
        for steps in permutations(steps_of(program)):
            self.check(one, program, list(steps), slow_is_rise(one, program, steps))
        for steps in product(steps_of(program), repeat=4):
            self.check(one, program, list(steps), slow_is_rise(one, program, steps))

    def test_steps_that_change_nothing(self):
        one, program = parity(), parity_program()
        steps = [(0, "begin"), (0, "begin"), (1, (0, "flip")), (1, (0, "even")), (1, (0, "even")), (2, (1, "even")),
                 (1, (0, "flip")), (0, "begin")]
        self.check(one, program, steps, True)
        self.check(one, program, rise_of(one, program) * 50, True)

    def test_steps_that_are_none(self):
        one = parity()
        program = Program(4, [0, 1], [(0, "flip", 1), (0, "even", 1), (1, "even", 2), (3, "flip", 2), (0, "even", 0),
                                      (1, "flip", 0)])
        good = [step for step in rise_of(one, program)]
        self.check(one, program, good, True)
        wrong = [
            (0, "begun"), (0, "Begin"), (0, ""), (0, None), (0, True), (0, 0), (2, "begin"), (3, "begin"), (4, "begin"),
            (-1, "begin"), (2 ** 80, "begin"), (True, "begin"), (False, "begin"), (None, "begin"), ("0", "begin"),
            (0, b"begin"), (0, ("begin",)), [0, "begin"], (0,), (0, "begin", 0), (), None, "begin", 0, ((0, "begin"),),
            (1, (0,)), (1, ("flip", 0)), (1, (0, "flip", 1)), (1, [0, "flip"]), [1, (0, "flip")], (1, (0, "odd")),
            (1, (False, "flip")), (True, (0, "flip")), (1, (0, None)), (1, (0, ["flip"])), (1, ([0], "flip")),
            (1, (0, 1)), (1, (4, "flip")), (1, (-1, "flip")), (1, (2 ** 80, "flip")), (2, (3, "flip")), (1, (2, "even")),
            (2, (0, "even")), (1, {"flip": 0}), (1, (None, "flip")), (1, ("0", "flip")), (1, ()), (4, (1, "even")),
            (-2, (1, "even")), (1, (0, "")), (1, (0, "FLIP")), (0, (True, "flip")), ([0], "begin"), ({}, "begin"),
        ]
        for step in wrong + odd_values():
            self.check(one, program, good + [step], False)
            self.check(one, program, [step] + good, False)
            self.check(one, program, good[:1] + [step] + good, False)

    def test_a_place_without_a_value_brings_nothing(self):
        one = Analysis(chain_joins(2), {"a": [0, 1]})
        program = Program(3, [0], [(0, "a", 1), (1, "a", 2), (2, "a", 1)])
        self.check(one, program, [(0, "begin"), (1, (0, "a")), (2, (1, "a"))], True)
        self.check(one, program, [(1, (0, "a")), (0, "begin"), (1, (0, "a")), (2, (1, "a"))], False)
        self.check(one, program, [(0, "begin"), (2, (1, "a")), (1, (0, "a")), (2, (1, "a"))], False)
        self.check(one, program, [(0, "begin"), (1, (2, "a")), (1, (0, "a")), (2, (1, "a"))], False)

    def test_other_values(self):
        one, program = parity(), parity_program()
        steps = rise_of(one, program)
        others = [tuple(steps), {step: 1 for step in steps}, set(steps), [steps], iter(steps), [], None, "begin",
                  [list(step) for step in steps], {}]
        for thing in others + odd_values():
            self.check(one, program, thing, False)

    def test_each_reached_place_has_its_fact(self):
        one = Analysis(chain_joins(3), {"a": [1, 2, 2]})
        program = Program(2, [0, 1], [(0, "a", 1), (1, "a", 1)])
        self.assertEqual(facts_of(one, program), [0, 2])
        self.check(one, program, [(0, "begin"), (1, "begin")], False)
        self.check(one, program, [(0, "begin"), (1, (0, "a"))], False)
        self.check(one, program, [(0, "begin"), (1, (0, "a")), (1, (1, "a"))], True)
        self.check(one, program, [(1, "begin"), (1, (1, "a")), (1, (1, "a"))], False)
        self.check(one, program, [(1, "begin"), (1, (1, "a")), (1, (1, "a")), (0, "begin")], True)


class ErrorsTest(unittest.TestCase):
    def test_the_least_statement_reached_or_not(self):
        one = Analysis(fork(), {"b": [0, 1, 2]})
        program = Program(3, [0], [(0, "b", 0), (2, "c", 0), (1, "a", 1), (1, "d", 1)])
        calls = [lambda: rise_of(one, program)]
        calls += [lambda thing=thing: is_rise(one, program, thing) for thing in (None, [], [(0, "begin")], "x")]
        for call in calls:
            with self.assertRaises(NoStatement) as caught:
                stays(self, [one, program], call)
            self.assertEqual(caught.exception.name, "a")


if __name__ == "__main__":
    unittest.main()
