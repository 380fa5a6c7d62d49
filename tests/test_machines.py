"""[90] and [91]: machines, the states at places, and the collecting analysis."""

import unittest
from itertools import product

from factflows.analyses import Analysis
from factflows.errors import NoStatement, Wrong
from factflows.facts import facts_of
from factflows.joins import Joins
from factflows.machines import Machine, collecting, states_at
from factflows.programs import Program, line_program
from tests.helper import (Dice, asked_often, no_list_twice, odd_values, places_behind, raised, slow_reached, slow_runs,
                          slow_sets, some_machine, some_program, spoil, stays, toggle)
from tests.test_mirrors import slow_analysis


def slow_states(machine, program, longest):
    """The states at each place, by all runs along all words up to some length."""
    found = [set() if place in slow_reached(program) else None for place in range(program.places)]
    for length in range(longest + 1):
        for word in product(program.statements(), repeat=length):
            ends = {run[-1] for run in slow_runs(machine, word)}
            for place in places_behind(program, word):
                found[place] |= ends
    return [None if some is None else sorted(some) for some in found]


def slow_collecting(machine):
    def moved(some, name):
        return frozenset(b for a, b in machine.moves(name) if a in some)
    first = tuple(machine.firsts())
    sets = slow_sets(frozenset(first), machine.statements(), moved, lambda some, more: some | more)
    return slow_analysis(sets, first, machine.statements(), moved, lambda some, more: some | more)


class ExamplesTest(unittest.TestCase):
    def test_as_written(self):
        machine = Machine(2, [0], {"inc": [(0, 1), (1, 0), (1, 1)], "set": [(0, 0), (1, 0)]})
        self.assertEqual([machine.step([0, 1], "set"), machine.after(("inc", "inc")), collecting(machine)[1]],
                         [[0], [0, 1], [(0,), (0, 1), (1,)]])
        self.assertEqual(states_at(machine, Program(3, [0], [(0, "inc", 1), (1, "inc", 1)])), [[0], [0, 1], None])


class MachineTest(unittest.TestCase):
    def test_of_lists_and_tuples_in_any_order(self):
        wanted = Machine(3, [0, 2], {"a": [(0, 1), (2, 0)], "b": []})
        for firsts in ([2, 0], (0, 2), (2, 0, 2), [0, 0, 2, 0], (2, 0)):
            for pairs in ([(2, 0), (0, 1)], ((0, 1), (2, 0)), [(2, 0), (0, 1), (2, 0)], ((2, 0), (0, 1), (0, 1))):
                for moves in ({"b": (), "a": pairs}, {"a": pairs, "b": []}):
                    told = stays(self, [firsts, moves], lambda: Machine(3, firsts, moves))
                    self.assertEqual(told, wanted)
                    self.assertEqual(repr(told), "Machine(3, [0, 2], {'a': [(0, 1), (2, 0)], 'b': []})")
        self.assertEqual(eval(repr(wanted)), wanted)
        self.assertEqual(repr(Machine(1, (0,), {})), "Machine(1, [0], {})")

    def test_what_it_tells(self):
        machine = Machine(3, (2, 0, 2), {"b": ((1, 1), (0, 2), (1, 1)), "a": [(2, 0), (0, 1)], "zz": []})
        self.assertEqual((machine.states, machine.firsts(), machine.statements()), (3, [0, 2], ["a", "b", "zz"]))
        self.assertEqual([machine.moves(name) for name in ("a", "b", "zz")], [[(0, 1), (2, 0)], [(0, 2), (1, 1)], []])
        for name in ("a", "b"):
            self.assertTrue(all(type(pair) is tuple for pair in machine.moves(name)))
        with self.assertRaises(AttributeError):
            machine.states = 4

    def test_unlike_ones(self):
        one = Machine(3, [0], {"a": [(0, 1)], "b": []})
        for other in (Machine(2, [0], {"a": [(0, 1)], "b": []}), Machine(3, [0, 1], {"a": [(0, 1)], "b": []}),
                      Machine(3, [1], {"a": [(0, 1)], "b": []}), Machine(3, [0], {"a": [(0, 1)]}),
                      Machine(3, [0], {"a": [(1, 0)], "b": []}), Machine(3, [0], {"a": [(0, 1)], "c": []}),
                      Machine(3, [0], {"a": [(0, 1)], "b": [(0, 1)]}), Machine(3, [0], {"b": [(0, 1)], "a": []})):
            self.assertFalse(one == other)
            self.assertTrue(one != other)
        for thing in odd_values():
            self.assertIs(one == thing, False)

    def test_what_is_passed_in_stays_apart(self):
        firsts, pairs = [0, 1], [(0, 1), (1, 1)]
        moves = {"a": pairs}
        machine = Machine(2, firsts, moves)
        before = repr(machine)
        firsts.append(7)
        pairs.clear()
        moves["b"] = None
        self.assertEqual(repr(machine), before)
        self.assertEqual(machine, Machine(2, (1, 0), {"a": ((1, 1), (0, 1))}))

    def test_results_are_new(self):
        asked_often(self, toggle, [
            lambda one: one.firsts(), lambda one: one.statements(), lambda one: one.moves("inc"), lambda one: one.states,
            lambda one: one.step([1], "inc"), lambda one: one.after(("inc",)), lambda one: one.after(()), repr])


class WrongTest(unittest.TestCase):
    def check(self, place, states, firsts, moves):
        error = raised(self, Wrong, lambda: stays(self, [states, firsts, moves], lambda: Machine(states, firsts, moves)))
        self.assertEqual(error.place, place)

    def test_other_values(self):
        for thing in odd_values():
            self.check(0, thing, [0], {})
            self.check(0, thing, thing, thing)
            if thing != (0,):
                self.check(1, 1, thing, {})
                self.check(1, 1, thing, thing)
            self.check(1, 2, [0, thing], {})
            self.check(1, 2, (thing, 0), None)
            if thing != {}:
                self.check(2, 6, [0], thing)
            if not (isinstance(thing, (list, tuple)) and len(thing) == 0):
                self.check(2, 6, [0], {"a": thing})
            self.check(2, 6, [0], {"a": [], "b": [(0, 0), thing]})
            self.check(2, 6, [0], {"a": ((0, thing),)})
            self.check(2, 6, [0], {"a": ((thing, 0),)})

    def test_states(self):
        for states in (0, 7, -1, 8, 2 ** 80, True, False, "2", None, [2], (2,)):
            self.check(0, states, [0], {})
            self.check(0, states, [], {"A": 1})
        for states in range(1, 7):
            self.assertEqual(Machine(states, [states - 1], {}).states, states)

    def test_firsts(self):
        for firsts in ([], (), [2], [0, 2], (0, -1), [True], [0, False], [None], ["0"], {0: 1}, {0}, "0", 0, [[0]],
                       [(0,)], range(2), {}, [2 ** 80]):
            self.check(1, 2, firsts, {"a": [(0, 0)]})
            self.check(1, 2, firsts, None)

    def test_moves(self):
        names = "abcdefg"
        self.assertEqual(len(Machine(1, [0], {name: [] for name in names[:6]}).statements()), 6)
        self.check(2, 1, [0], {name: [] for name in names})
        for name in ("", "A", "a1", "a b", "-", "toolongna", 0, None, True, ("a",), b"a"):
            self.check(2, 2, [0], {name: []})
            self.check(2, 2, [0], {"a": [], name: []})
        for pairs in ([(0, 2)], [(2, 0)], [(-1, 0)], [(0, True)], [(False, 0)], [(0, 0, 0)], [(0,)], [()], [[0, 0]],
                      [(0, 0), [0, 0]], [(0, None)], [("0", 0)], ["ab"], [0], {(0, 0): 1}, {(0, 0)}, "", None, 0,
                      [(0, 2 ** 80)], [(0, (0,))], [((0, 0), 0)], [None]):
            self.check(2, 2, [0], {"a": pairs})
            self.check(2, 2, [0], {"b": [(0, 0)], "a": pairs})
        for moves in ([], (), [("a", [])], "a", None, {"a"}, 0):
            self.check(2, 2, [0], moves)

    def test_the_first_place(self):
        self.check(0, 0, [], [])
        self.check(1, 2, [], [])
        self.check(2, 2, [0], [])

    def test_long_ones(self):
        one = Machine(6, [5, 0] * 5000, {"a": [(0, 5), (5, 0)] * 3000})
        self.assertEqual(one, Machine(6, [0, 5], {"a": [(0, 5), (5, 0)]}))


class StepAndAfterTest(unittest.TestCase):
    def test_against_all_runs(self):
        dice, many = Dice(920), 0
        for _ in range(200):
            machine = some_machine(dice, ["a", "b"])
            for length in range(4):
                for word in product("ab", repeat=length):
                    ends = stays(self, [machine], lambda: machine.after(word))
                    self.assertEqual(ends, sorted({run[-1] for run in slow_runs(machine, word)}))
                    many += len(ends) > 1
                    for name in "ab":
                        self.assertEqual(machine.step(ends, name), machine.after(word + (name,)))
        self.assertGreater(many, 300)

    def test_states_of_a_list(self):
        machine = Machine(4, [3], {"a": [(0, 1), (0, 3), (2, 3), (1, 0)], "b": []})
        for some, wanted in [([], []), ([3], []), ([2, 0, 2], [1, 3]), ([1, 0], [0, 1, 3]), ([0, 1, 2, 3], [0, 1, 3])]:
            self.assertEqual(stays(self, [some], lambda: machine.step(some, "a")), wanted)
            self.assertEqual(machine.step(some, "b"), [])
        self.assertEqual(machine.after(()), [3])
        self.assertEqual(machine.after(("a", "a")), [])
        self.assertEqual(toggle().after(("inc",) * 40), [0, 1])

    def test_no_statement(self):
        machine = Machine(2, [0], {"a": [(0, 1)], "b": []})
        for name in ("c", "ab", "inc", "zzz"):
            self.assertIs(raised(self, NoStatement, lambda: machine.moves(name)).name, name)
            for some in ([], [0], [0, 1]):
                self.assertIs(raised(self, NoStatement, lambda: machine.step(some, name)).name, name)
            # Where no run goes on, too.
            for word in ((name,), ("a", name), ("b", "b", name), ("a", "a", name, "d"), (name, "a", "d")):
                self.assertIs(raised(self, NoStatement, lambda: machine.after(word)).name, name)


class StatesAtTest(unittest.TestCase):
    def test_against_runs_along_words(self):
        dice, many, stuck, unreached = Dice(921), 0, 0, 0
        for _ in range(250):
            machine = some_machine(dice, ["a", "b"], 2)
            program = some_program(dice, ["a", "b"], 3, 7)
            told = stays(self, [machine, program], lambda: states_at(machine, program))
            # A shortest path and run leads through no place with the same state twice.
            self.assertEqual(told, slow_states(machine, program, program.places * machine.states - 1))
            many, stuck = many + ([0, 1] in told), stuck + ([] in told)
            unreached += None in told
        self.assertGreater(min(many, stuck, unreached), 20)

    def test_against_the_facts_by_the_collecting_analysis(self):
        dice = Dice(922)
        for _ in range(300):
            machine = some_machine(dice, ["a", "b", "c"], 6)
            program = some_program(dice, ["a", "b", "c"])
            analysis, sets = collecting(machine)
            told = states_at(machine, program)
            self.assertEqual([None if some is None else tuple(some) for some in told],
                             [None if fact is None else sets[fact] for fact in facts_of(analysis, program)])

    def test_statements_that_lead_nowhere(self):
        machine = Machine(2, [0], {"a": [], "b": [(1, 1)]})
        program = Program(4, [0, 3], [(0, "a", 1), (1, "b", 1), (0, "b", 2), (2, "a", 3)])
        self.assertEqual(states_at(machine, program), [[0], [], [], [0]])

    def test_no_statement(self):
        machine = Machine(2, [0], {"b": []})
        self.assertEqual(states_at(machine, line_program(("b",))), [[0], []])
        self.assertEqual(raised(self, NoStatement, lambda: states_at(machine, line_program(("b", "d", "c")))).name, "c")
        far = Program(4, [0], [(0, "b", 1), (2, "a", 3), (0, "c", 1)])
        self.assertEqual(raised(self, NoStatement, lambda: states_at(machine, far)).name, "a")

    def test_results_are_new(self):
        program = Program(3, [0], [(0, "inc", 1), (1, "inc", 1)])
        told = states_at(toggle(), program)
        no_list_twice(self, told)
        spoil(told)
        self.assertEqual(states_at(toggle(), program), [[0], [0, 1], None])


class CollectingTest(unittest.TestCase):
    def test_against_a_slow_closing(self):
        dice, sizes = Dice(923), []
        for _ in range(250):
            machine = some_machine(dice, ["b", "a", "ab"][:dice.below(4)], 4)
            told = stays(self, [machine], lambda: collecting(machine))
            self.assertIs(type(told), tuple)
            self.assertEqual(told, slow_collecting(machine))
            self.assertIsNone(told[0].unkept())
            self.assertEqual(told[0].coming(), list(range(len(told[1]))))
            sizes.append(len(told[1]))
        self.assertGreater(sum(size > 3 for size in sizes), 50)

    def test_all_sets(self):
        moves = {"a": [(at, (at + 1) % 6) for at in range(6)], "b": [(at, at) for at in range(1, 6)]}
        analysis, sets = collecting(Machine(6, list(range(6)), moves))
        self.assertEqual((len(analysis), len(sets), sets[0]), (64, 64, ()))

    def test_edges(self):
        self.assertEqual(collecting(Machine(3, [2, 1], {})), (Analysis(Joins([[0]]), {}), [(1, 2)]))
        none = Analysis(Joins([[0, 1], [1, 1]]), {"a": [0, 0]}, begin=1)
        self.assertEqual(collecting(Machine(1, [0], {"a": []})), (none, [(), (0,)]))
        told = list(collecting(toggle()))
        spoil(told[1])
        self.assertEqual(collecting(toggle())[1], [(0,), (0, 1), (1,)])


if __name__ == "__main__":
    unittest.main()
