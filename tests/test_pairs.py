"""[60] to [62]: pairs, layers and relations; [8]; of [2] what is alike; of [4] Unlike ahead of TooMany."""

import unittest
from itertools import product

from factflows.analyses import Analysis
from factflows.errors import TooMany, Unlike
from factflows.facts import facts_of
from factflows.joins import Joins, chain_joins, union_joins
from factflows.pairs import are_alike, holds_for, is_closed, made_program, pair_layers, pair_list
from factflows.programs import Program
from tests.helper import (Dice, asked_again, fork, has_loop, known_example, longest_path, odd_values, raised,
                          slow_layers, some_analyses, some_analysis, some_program, spoilt, stays)

QUICK = Analysis(chain_joins(3), {"s": [1, 2, 2]})
SLOW = Analysis(chain_joins(3), {"s": [0, 2, 2]})


def climbers(ours, theirs):
    """Two chains; one statement goes up in one of them, another one in the other: so all pairs come."""
    one = {"a": [min(u + 1, ours - 1) for u in range(ours)], "b": list(range(ours))}
    other = {"a": list(range(theirs)), "b": [min(v + 1, theirs - 1) for v in range(theirs)]}
    return Analysis(chain_joins(ours), one), Analysis(chain_joins(theirs), other)


def slow_is_closed(one, other, thing):
    if type(thing) is not list:
        return False
    for pair in thing:
        if type(pair) is not tuple or len(pair) != 2 or type(pair[0]) is not int or type(pair[1]) is not int:
            return False
        if not 0 <= pair[0] < len(one) or not 0 <= pair[1] < len(other):
            return False
    pairs = set(thing)
    if len(pairs) != len(thing) or (one.begin, other.begin) not in pairs:
        return False
    made = {(one.do((s,), value=u), other.do((s,), value=v)) for s in one.statements() for u, v in pairs}
    joined = {(one.joins.join(u, x), other.joins.join(v, y)) for u, v in pairs for x, y in pairs}
    return made | joined <= pairs


class ExamplesTest(unittest.TestCase):
    def test_as_written(self):
        self.assertEqual([pair_layers(QUICK, SLOW), holds_for(QUICK, SLOW, [(0, 0), (1, 0)])[:2]],
                         [[[(0, 0)], [(1, 0)], [(2, 0)]], ("breaks", (2, 0))])


class LayersTest(unittest.TestCase):
    def test_against_a_slow_reckoning(self):
        most = 0
        for _, one, _, other, _ in some_analyses(500, 250):
            wanted = slow_layers(one, other)
            self.assertEqual(stays(self, [one, other], lambda: pair_layers(one, other)), wanted)
            self.assertEqual(stays(self, [one, other], lambda: pair_list(one, other)), sorted(sum(wanted, [])))
            most = max(most, len(wanted))
        self.assertGreater(most, 3)

    def test_the_facts_of_drawn_programs(self):
        """[8]"""
        dice = Dice(501)
        for _, one, _, other, _ in some_analyses(502, 80):
            pairs, layers = pair_list(one, other), pair_layers(one, other)
            for _ in range(8):
                program = some_program(dice, ["a", "b"])
                facts = list(zip(facts_of(one, program), facts_of(other, program)))
                for place in program.reached():
                    self.assertIn(facts[place], pairs)
                    if not has_loop(program):
                        early = sum(layers[:longest_path(program) + 1], [])
                        self.assertIn(facts[place], early)

    def test_a_single_analysis(self):
        for _, one, _, _, _ in some_analyses(503, 80):
            self.assertEqual(pair_list(one, one), [(value, value) for value in one.coming()])

    def test_no_statements(self):
        one, other = Analysis(fork(), {}, begin=1), Analysis(chain_joins(2), {}, begin=0)
        self.assertEqual([pair_list(one, other), pair_layers(one, other)], [[(1, 0)], [[(1, 0)]]])

    def test_joins_come_in_the_layer_of_what_is_joined(self):
        one = Analysis(union_joins(3), {"a": [1] * 8, "b": [2] * 8, "c": [4] * 8})
        self.assertEqual(pair_layers(one, one), [[(0, 0)], [(value, value) for value in range(1, 8)]])
        late = Analysis(union_joins(3), {"a": [1] * 8, "b": [0, 2, 0, 2, 0, 2, 0, 2]})
        self.assertEqual(pair_layers(late, late), [[(0, 0)], [(1, 1)], [(2, 2), (3, 3)]])

    def test_results_are_new(self):
        asked_again(self, lambda: pair_list(QUICK, SLOW))
        asked_again(self, lambda: pair_layers(QUICK, SLOW))
        asked_again(self, lambda: made_program(QUICK, SLOW, (2, 0)))
        asked_again(self, lambda: holds_for(QUICK, SLOW, [(0, 0), (1, 0)]))
        asked_again(self, lambda: holds_for(QUICK, SLOW, [(0, 0), (1, 0), (2, 0)]))
        asked_again(self, lambda: are_alike(QUICK, ["x"] * 3, SLOW, ["x"] * 3))


class MadeProgramTest(unittest.TestCase):
    def check(self, one, other, pair, layer, told):
        self.assertIs(type(told), tuple)
        program, place = told
        self.assertFalse(has_loop(program))
        self.assertLessEqual(longest_path(program), layer)
        self.assertIn(place, program.reached())
        self.assertIs(type(place), int)
        self.assertEqual((facts_of(one, program)[place], facts_of(other, program)[place]), pair)

    def test_each_pair_comes_in_its_layer(self):
        for _, one, _, other, _ in some_analyses(504, 120):
            layers = slow_layers(one, other)
            numbers = {pair: at for at, layer in enumerate(layers) for pair in layer}
            for pair in product(range(len(one)), range(len(other))):
                told = stays(self, [one, other, pair], lambda: made_program(one, other, pair))
                if pair in numbers:
                    self.check(one, other, pair, numbers[pair], told)
                else:
                    self.assertIsNone(told)

    def test_many_pairs(self):
        # Sixty-four values each: more than a thousand pairs, and a program of 2,000 places is enough for each.
        one = Analysis(union_joins(6), {"a": [u * 2 & 63 | 1 for u in range(64)], "b": [u & 42 for u in range(64)]})
        other = Analysis(union_joins(6), {"a": [u >> 1 | 32 for u in range(64)], "b": [u & 27 for u in range(64)]})
        layers = pair_layers(one, other, most=2000)
        self.assertEqual(layers, slow_layers(one, other))
        self.assertGreater(len(sum(layers, [])), 100)
        for at, layer in enumerate(layers):
            for pair in (layer[0], layer[-1]):
                self.check(one, other, pair, at, made_program(one, other, pair, most=2000))

    def test_a_chain_of_joins(self):
        step = Analysis(chain_joins(40), {"s": [min(u + 1, 39) for u in range(40)]})
        still = Analysis(chain_joins(40), {"s": [0] * 40})
        self.check(step, still, (39, 0), 39, made_program(step, still, (39, 0)))
        self.assertIsNone(made_program(step, still, (39, 1)))
        self.check(step, step, (0, 0), 0, made_program(step, step, (0, 0)))


class RelationsTest(unittest.TestCase):
    def check_break(self, one, other, relation, told, word="breaks"):
        layers = slow_layers(one, other)
        breaking = [[pair for pair in layer if pair not in relation] for layer in layers]
        at = [bool(layer) for layer in breaking].index(True)
        self.assertEqual(told[:2], (word, min(breaking[at])))
        self.assertEqual(len(told), 4)
        program, place = told[2:]
        self.assertFalse(has_loop(program))
        self.assertLessEqual(longest_path(program), at)
        self.assertEqual((facts_of(one, program)[place], facts_of(other, program)[place]), told[1])

    def test_holds_for(self):
        holding = breaking = 0
        for dice, one, _, other, _ in some_analyses(505, 250):
            pairs = sorted(sum(slow_layers(one, other), []))
            every = list(product(range(len(one)), range(len(other))))
            for much in (1, 8, 40, 1000):
                relation = [pair for pair in every if pair in pairs and dice.below(much) or not dice.below(2)]
                relation = dice.shuffled(relation + relation[:2])
                told = stays(self, [one, other, relation], lambda: holds_for(one, other, relation))
                if set(pairs) <= set(relation):
                    self.assertEqual(told, ("holds", pairs))
                    holding += 1
                else:
                    self.check_break(one, other, relation, told)
                    breaking += 1
        self.assertGreater(min(holding, breaking), 50)

    def test_are_alike(self):
        alike = parted = 0
        for dice, one, mine, other, its in some_analyses(506, 300):
            if dice.below(2):
                pairs = sum(slow_layers(one, other), [])
                its = list(its)
                for u, v in pairs:
                    its[v] = mine[u]
            told = stays(self, [one, mine, other, its], lambda: are_alike(one, mine, other, its))
            equal = [(u, v) for u, v in product(range(len(one)), range(len(other))) if mine[u] == its[v]]
            held = holds_for(one, other, equal)
            if held[0] == "holds":
                self.assertEqual(told, ("alike", held[1]))
                alike += 1
            else:
                self.check_break(one, other, equal, told, "parted")
                parted += 1
        self.assertGreater(min(alike, parted), 40)

    def test_alike_by_the_facts_of_drawn_programs(self):
        dice, alike = Dice(507), 0
        for _, one, mine, other, its in some_analyses(508, 150):
            if are_alike(one, mine, other, its)[0] == "alike":
                alike += 1
                for _ in range(5):
                    program = some_program(dice, ["a", "b"])
                    for place in program.reached():
                        answers = mine[facts_of(one, program)[place]], its[facts_of(other, program)[place]]
                        self.assertEqual(*answers)
        self.assertGreater(alike, 10)

    def test_the_least_pair_of_the_first_layer(self):
        one = known_example()
        every = [(value, value) for value in range(4)]
        self.assertEqual(pair_layers(one, one), [every[:1], every[1:]])
        self.assertEqual(holds_for(one, one, every), ("holds", every))
        self.assertEqual(holds_for(one, one, every[:1])[:2], ("breaks", (1, 1)))
        self.assertEqual(holds_for(one, one, [])[:2], ("breaks", (0, 0)))
        self.assertEqual(holds_for(one, one, every[:2])[:2], ("breaks", (2, 2)))
        self.assertEqual(holds_for(one, one, every[1:])[1:], ((0, 0), Program(1, [0], []), 0))
        self.assertEqual(are_alike(one, list("wxyz"), one, list("wxyz")), ("alike", every))
        self.assertEqual(are_alike(one, list("wxyz"), one, list("wxzy"))[:2], ("parted", (2, 2)))


class TooManyTest(unittest.TestCase):
    def calls(self, one, other, most):
        every = list(product(range(len(one)), range(len(other))))
        mine, its = ["x"] * len(one), ["x"] * len(other)
        return [lambda: pair_list(one, other, most=most), lambda: pair_layers(one, other, most=most),
                lambda: made_program(one, other, (one.begin, other.begin), most=most),
                lambda: made_program(one, other, (len(one) - 1, len(other) - 1), most=most),
                lambda: holds_for(one, other, every, most=most), lambda: holds_for(one, other, [], most=most),
                lambda: are_alike(one, mine, other, its, most=most),
                lambda: are_alike(one, mine, other, ["y"] * len(other), most=most)]

    def test_just_as_many_as_needed_and_less_by_one(self):
        for _, one, _, other, _ in some_analyses(509, 60):
            many = len(pair_list(one, other))
            answers = [call() for call in self.calls(one, other, 600)]
            self.assertEqual([call() for call in self.calls(one, other, many)], answers)
            for most in sorted({1, many - 1} - {0}):
                for call in self.calls(one, other, most):
                    if most < many:
                        self.assertEqual(raised(self, TooMany, lambda: stays(self, [one, other], call)).limit, most)

    def test_the_usual_most(self):
        for ours, theirs in ((24, 25), (25, 24), (25, 25), (64, 10)):
            one, other = climbers(ours, theirs)
            every = list(product(range(ours), range(theirs)))
            calls = [lambda: pair_list(one, other), lambda: pair_layers(one, other), lambda: holds_for(one, other, every),
                     lambda: made_program(one, other, (0, 0)), lambda: are_alike(one, ["x"] * ours, other, ["x"] * theirs)]
            for call in calls:
                if len(every) > 600:
                    self.assertEqual(raised(self, TooMany, call).limit, 600)
                else:
                    call()
            self.assertEqual(pair_list(one, other, most=len(every)), every)

    def test_two_thousand_and_more(self):
        one, other = climbers(40, 50)
        self.assertEqual(len(pair_list(one, other, most=2000)), 2000)
        program, place = made_program(one, other, (39, 49), most=2000)
        self.assertEqual((facts_of(one, program)[place], facts_of(other, program)[place]), (39, 49))
        one, other = climbers(64, 64)
        for most in (1, 600, 2000):
            for call in self.calls(one, other, most):
                self.assertEqual(raised(self, TooMany, call).limit, most)


class UnlikeTest(unittest.TestCase):
    def test_unlike_ahead_of_all_else(self):
        one = known_example()
        others = [one.without(["a"]), one.renamed({"a": "ab"}), one.without(["a", "b", "t"]),
                  one.with_map("more", [0, 1, 2, 3])]
        for first, other in [(one, other) for other in others] + [(other, one) for other in others]:
            answers = list("wxyz")
            calls = [lambda: pair_list(first, other), lambda: pair_list(first, other, most=1),
                     lambda: pair_layers(first, other, most=1), lambda: made_program(first, other, (3, 3)),
                     lambda: made_program(first, other, (0, 0), most=1), lambda: holds_for(first, other, [], most=1),
                     lambda: are_alike(first, answers, other, answers, most=1)]
            calls += [lambda thing=thing: is_closed(first, other, thing) for thing in (None, [], "x", [(0, 0)])]
            for call in calls:
                raised(self, Unlike, lambda: stays(self, [first, other], call))


class IsClosedTest(unittest.TestCase):
    def check(self, one, other, thing, wanted):
        self.assertIs(stays(self, [one, other, thing], lambda: is_closed(one, other, thing)), wanted)

    def test_pairs_and_spoilt_pairs(self):
        right = wrong = 0
        for dice, one, _, other, _ in some_analyses(510, 250):
            pairs = pair_list(one, other)
            self.check(one, other, dice.shuffled(pairs), True)
            for _ in range(6):
                thing = spoilt(dice, dice.shuffled(pairs))
                wanted = slow_is_closed(one, other, thing)
                self.check(one, other, thing, wanted)
                right, wrong = right + wanted, wrong + (not wanted)
        self.assertGreater(wrong, 500)
        self.assertGreater(right, 20)

    def test_more_pairs_than_come(self):
        closed = 0
        dice = Dice(511)
        for _ in range(400):
            one, other = some_analysis(dice, ["a"], 4), some_analysis(dice, ["a"], 4)
            every = list(product(range(len(one)), range(len(other))))
            self.check(one, other, dice.shuffled(every), True)
            for _ in range(6):
                thing = [pair for pair in every if dice.below(6)]
                wanted = slow_is_closed(one, other, thing)
                self.check(one, other, dice.shuffled(thing), wanted)
                closed += wanted and len(thing) > len(pair_list(one, other))
        self.assertGreater(closed, 50)

    def test_what_is_lacking(self):
        one = Analysis(fork(), {})
        self.check(one, one, [(0, 0)], True)
        self.check(one, one, [(0, 0), (1, 1)], False)
        self.check(one, one, [(0, 0), (2, 2), (1, 1)], True)
        self.check(one, one, [(0, 0), (1, 1), (2, 1)], False)
        self.check(one, one, [(1, 1)], False)
        self.check(one, one, [], False)
        self.check(QUICK, SLOW, [(0, 0), (1, 0), (2, 0)], True)
        self.check(QUICK, SLOW, [(0, 0), (1, 0)], False)
        self.check(QUICK, SLOW, [(0, 0), (2, 0)], False)

    def test_small_spoils(self):
        good = [(0, 0), (1, 0), (2, 0)]
        for pair in [(0, 0), (3, 0), (0, 3), (-1, 0), (0, -1), (2 ** 80, 0), (0, -2 ** 80), (True, 0), (2, True), [0, 1],
                     (0,), (0, 0, 0), (), None, (None, 0), ("0", 0), "00", {0: 0}, (0, (0,)), ([0], 0)]:
            self.check(QUICK, SLOW, good + [pair], False)
            self.check(QUICK, SLOW, [pair] + good, False)
        self.check(QUICK, SLOW, [(0, False), (1, 0), (2, 0)], False)
        self.check(QUICK, SLOW, [(0, 0), (True, 0), (2, 0)], False)
        self.check(QUICK, SLOW, [(0, 0), [1, 0], (2, 0)], False)

    def test_other_values(self):
        for thing in odd_values():
            self.check(QUICK, SLOW, thing, False)
            self.check(QUICK, SLOW, [(0, 0), (1, 0), (2, 0), thing], False)
        for thing in (((0, 0), (1, 0), (2, 0)), {(0, 0): 1}, {(0, 0)}, "pairs"):
            self.check(QUICK, SLOW, thing, False)

    def test_all_pairs_of_great_analyses(self):
        one = Analysis(union_joins(6), {"a": [u | 1 for u in range(64)]})
        every = list(product(range(64), repeat=2))
        self.check(one, one, every, True)
        self.check(one, one, every[:-1], False)
        flat = Analysis(Joins([[u if u == v else 63 for v in range(64)] for u in range(64)]), {})
        self.check(flat, flat, every, True)
        self.check(flat, flat, [pair for pair in every if pair != (63, 5)], False)


if __name__ == "__main__":
    unittest.main()
