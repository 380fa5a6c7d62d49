"""[71]: contexts that lead two values to unlike answers; [70]: what they are."""

import unittest
from itertools import product

from factflows.analyses import Analysis
from factflows.contexts import context_of, is_context
from factflows.errors import Absent
from factflows.joins import Joins, chain_joins, union_joins
from tests.helper import (asked_again, fork, known_example, odd_values, raised, slow_coming, slow_context,
                          some_analyses, spoilt, stays, steps_of_contexts)

ANSWERS = ["no", "yes", "no", "no"]


def slow_is_context(analysis, answers, value, other, thing):
    if type(thing) is not list:
        return False
    for step in thing:
        if type(step) is not tuple or len(step) != 2 or type(step[0]) is not str:
            return False
        if step[0] == "do" and type(step[1]) is str and step[1] in analysis.statements():
            to = analysis.map_of(step[1])
        elif step[0] == "join" and type(step[1]) is int and step[1] in slow_coming(analysis):
            to = analysis.joins.rows()[step[1]]
        else:
            return False
        value, other = to[value], to[other]
    return answers[value] != answers[other]


class ExamplesTest(unittest.TestCase):
    def test_as_written(self):
        known = known_example()
        self.assertEqual([context_of(known, ANSWERS, 0, 3), context_of(known, ANSWERS, 0, 2)],
                         [[("join", 1)], [("do", "t")]])


class ContextOfTest(unittest.TestCase):
    def test_against_a_slow_search(self):
        lengths = []
        for _, one, answers, _, _ in some_analyses(700, 300):
            for value, other in product(slow_coming(one), repeat=2):
                told = stays(self, [one, answers], lambda: context_of(one, answers, value, other))
                self.assertEqual(told, slow_context(one, answers, value, other))
                lengths.append(-1 if told is None else len(told))
        for length, least in ((-1, 100), (0, 100), (1, 100), (2, 10), (3, 1)):
            self.assertGreater(lengths.count(length), least)

    def test_against_all_short_contexts(self):
        for _, one, answers, _, _ in some_analyses(701, 60, 4):
            steps = [step for step, _ in steps_of_contexts(one)]
            if len(steps) > 6:
                continue
            every = [list(some) for length in range(4) for some in product(steps, repeat=length)]
            for value, other in product(slow_coming(one), repeat=2):
                right = [some for some in every if slow_is_context(one, answers, value, other, some)]
                told = context_of(one, answers, value, other)
                if right:
                    self.assertEqual(told, right[0])
                elif told is not None:
                    self.assertGreater(len(told), 3)

    def test_the_least_of_the_shortest(self):
        # "do" stands ahead of "join", and these by names and by numbers.
        one = Analysis(union_joins(2), {"c": [0, 1, 2, 3], "b": [0, 1, 2, 3], "a": [1, 1, 3, 3]})
        self.assertEqual(context_of(one, ["x", "x", "x", "y"], 0, 1), None)
        two = Analysis(union_joins(2), {"c": [2, 3, 2, 3], "b": [2, 3, 2, 3], "a": [1, 1, 1, 1]})
        self.assertEqual(context_of(two, ["x", "x", "x", "y"], 0, 1), [("do", "b")])
        three = Analysis(union_joins(2), {"b": [2, 2, 2, 2], "a": [1, 1, 1, 1]})
        self.assertEqual(context_of(three, ["x", "x", "x", "y"], 0, 1), [("join", 2)])
        self.assertEqual(context_of(three, ["x", "x", "x", "y"], 3, 0), [])

    def test_long_contexts(self):
        one = Analysis(chain_joins(40), {"s": [min(u + 1, 39) for u in range(40)]})
        answers = ["no"] * 39 + ["yes"]
        self.assertEqual(context_of(one, answers, 0, 1), [("do", "s")] * 38)
        self.assertEqual(context_of(one, answers, 38, 37), [("do", "s")])
        self.assertEqual(context_of(one, answers, 38, 39), [])

    def test_values_that_come_by_joins(self):
        # The context joins a value that is no path value.
        one = Analysis(union_joins(2), {"a": [1] * 4, "b": [2] * 4})
        self.assertEqual(slow_coming(one), [0, 1, 2, 3])
        self.assertIs(is_context(one, ANSWERS, 0, 1, [("join", 3)]), False)
        self.assertIs(is_context(one, ["no", "no", "yes", "no"], 0, 1, [("join", 2)]), True)

    def test_results_are_new(self):
        for value, other in product(range(4), repeat=2):
            asked_again(self, lambda: context_of(known_example(), ANSWERS, value, other))


class IsContextTest(unittest.TestCase):
    def check(self, one, answers, value, other, thing):
        told = stays(self, [one, answers, thing], lambda: is_context(one, answers, value, other, thing))
        self.assertIs(told, slow_is_context(one, answers, value, other, thing))
        return told

    def test_longer_ones_and_spoilt_ones(self):
        right = wrong = longer = 0
        for dice, one, answers, _, _ in some_analyses(702, 300):
            steps = [step for step, _ in steps_of_contexts(one)]
            coming = slow_coming(one)
            for _ in range(10):
                value, other = dice.pick(coming), dice.pick(coming)
                shortest = context_of(one, answers, value, other)
                thing = [dice.pick(steps) for _ in range(dice.below(5))]
                told = self.check(one, answers, value, other, thing)
                longer += told and len(thing) > len(shortest)
                self.assertFalse(told and shortest is None)
                if shortest is not None:
                    self.assertIs(self.check(one, answers, value, other, shortest), True)
                    told = self.check(one, answers, value, other, spoilt(dice, shortest))
                    right, wrong = right + told, wrong + (not told)
        self.assertGreater(min(right, wrong, longer), 50)

    def test_values_that_do_not_come_and_statements_that_are_none(self):
        one = Analysis(fork(), {"a": [0, 2, 2], "b": [2, 2, 2]})
        answers = ["no", "no", "yes"]
        self.assertEqual(slow_coming(one), [0, 2])
        self.assertIs(is_context(one, answers, 0, 2, []), True)
        for step, wanted in [(("do", "a"), True), (("do", "b"), False), (("join", 0), True), (("join", 2), False),
                             (("join", 1), False), (("do", "c"), False), (("do", 0), False), (("join", "a"), False),
                             (("join", 3), False), (("join", -1), False), (("join", 2 ** 80), False),
                             (("join", False), False), (["do", "a"], False), (("do",), False), (("do", "a", "a"), False),
                             (("Do", "a"), False), (("", "a"), False), (("a", "do"), False), (("do", b"a"), False),
                             ((b"do", "a"), False), (("do", ("a",)), False), (("do", ["a"]), False), (None, False),
                             ("do", False), ((), False), (("join", None), False), (("join", [0]), False), (0, False)]:
            self.assertIs(self.check(one, answers, 0, 2, [step]), wanted)
            self.assertIs(self.check(one, answers, 0, 2, [("do", "a"), step]), wanted)
            self.assertIs(self.check(one, answers, 0, 0, [step]), False)

    def test_other_values(self):
        known = known_example()
        for thing in odd_values():
            self.assertIs(self.check(known, ANSWERS, 0, 1, thing), thing == [] and type(thing) is list)
            self.assertIs(self.check(known, ANSWERS, 0, 1, [thing]), False)
            self.assertIs(self.check(known, ANSWERS, 0, 1, [("do", thing)]), False)
            self.assertIs(self.check(known, ANSWERS, 0, 1, [("join", thing)]), False)
            self.assertIs(self.check(known, ANSWERS, 0, 1, [(thing, "a")]), False)
        for thing in ((), (("join", 1),), {("join", 1): 1}, "", iter([])):
            self.assertIs(is_context(known, ANSWERS, 0, 1, thing), False)

    def test_long_ones(self):
        one = Analysis(Joins([[0, 2, 2], [2, 1, 2], [2, 2, 2]]), {"a": [1, 0, 2]})
        self.assertIs(self.check(one, ["x", "y", "x"], 0, 1, [("do", "a")] * 6000), True)
        self.assertIs(self.check(one, ["x", "y", "x"], 0, 1, [("do", "a")] * 6000 + [("join", 2)]), False)
        self.assertIs(self.check(one, ["x", "y", "x"], 0, 1, [("do", "a")] * 6000 + [("do", "b")]), False)


class AbsentTest(unittest.TestCase):
    def test_the_first_of_the_two(self):
        one = Analysis(chain_joins(5), {"a": [2, 2, 3, 3, 3]}, begin=1)
        answers = list("vwxyz")
        self.assertEqual(one.coming(), [1, 2, 3])
        for value, other in product((-2 ** 80, -1, 0, 1, 2, 3, 4, 5, 2 ** 80), repeat=2):
            absent = [asked for asked in (value, other) if asked not in (1, 2, 3)]
            calls = [lambda: context_of(one, answers, value, other)]
            calls += [lambda thing=thing: is_context(one, answers, value, other, thing) for thing in (None, [], [("do", 0)])]
            for call in calls:
                if absent:
                    self.assertIs(raised(self, Absent, lambda: stays(self, [one, answers], call)).value, absent[0])
                else:
                    call()


if __name__ == "__main__":
    unittest.main()
