"""[74]: one form for all analyses that are alike, and which values are the same; [9]."""

import unittest
from itertools import product

from factflows.analyses import Analysis
from factflows.errors import Unlike
from factflows.joins import Joins, chain_joins, union_joins
from factflows.least import least_of
from factflows.likes import least_form, same_values
from factflows.pairs import are_alike, pair_list
from tests.helper import (asked_again, fork, known_example, raised, slow_classes, some_analyses, some_answers, stays)
from tests.test_contexts import ANSWERS
from tests.test_least import slow_least
from tests.test_pairs import QUICK


def slow_form(analysis, answers):
    """The form, by giving numbers to the values of the least analysis one after another."""
    least, told, _ = slow_least(analysis, answers)
    numbers = {least.begin: 0}
    for at in range(len(least)):
        value = [u for u in numbers if numbers[u] == at][0]
        ahead = [[u for u in numbers if numbers[u] == number][0] for number in range(at)]
        for made in [least.map_of(s)[value] for s in sorted(least.statements())] + [
                least.joins.join(value, u) for u in ahead]:
            numbers.setdefault(made, len(numbers))
    back = sorted(numbers, key=numbers.get)
    rows = [[numbers[least.joins.join(u, v)] for v in back] for u in back]
    maps = {s: [numbers[least.map_of(s)[u]] for u in back] for s in least.statements()}
    return Analysis(Joins(rows), maps, begin=0), [told[u] for u in back], numbers


def moved_with(dice, analysis, answers):
    order = dice.shuffled(range(len(analysis)))
    return analysis.moved(order), [answers[order.index(value)] for value in range(len(analysis))]


class ExamplesTest(unittest.TestCase):
    def test_as_written(self):
        other = Analysis(chain_joins(2), {"s": [1, 1]})
        self.assertEqual(same_values(QUICK, ["no", "yes", "yes"], other, ["no", "yes"]), [0, 1])


class LeastFormTest(unittest.TestCase):
    def test_against_a_slow_reckoning(self):
        other_numbers = 0
        for _, one, answers, _, _ in some_analyses(780, 250):
            told = stays(self, [one, answers], lambda: least_form(one, answers))
            self.assertEqual(type(told), tuple)
            self.assertEqual(told, slow_form(one, answers)[:2])
            other_numbers += told[0] != least_of(one, answers)[0]
        self.assertGreater(other_numbers, 40)

    def test_analyses_with_their_values_moved(self):
        for dice, one, answers, _, _ in some_analyses(781, 150):
            form = least_form(one, answers)
            for _ in range(3):
                self.assertEqual(least_form(*moved_with(dice, one, answers)), form)
            self.assertEqual(least_form(*form), form)

    def test_equal_forms_for_alike_ones_alone(self):
        alike = parted = 0
        for dice, one, mine, other, its in some_analyses(782, 400, 5):
            if dice.below(2):
                its = list(its)
                for u, v in pair_list(one, other):
                    its[v] = mine[u]
            equal = least_form(one, mine) == least_form(other, its)
            self.assertEqual(equal, are_alike(one, mine, other, its)[0] == "alike")
            alike, parted = alike + equal, parted + (not equal)
        self.assertGreater(min(alike, parted), 60)

    def test_the_order_of_the_numbers(self):
        # From the begin 3: "a" makes 2 of it, "b" makes 1; their join 0 is found last.
        joins = Joins([[0, 0, 0, 0], [0, 1, 0, 1], [0, 0, 2, 2], [0, 1, 2, 3]])
        one = Analysis(joins, {"b": [0, 1, 0, 1], "a": [0, 0, 2, 2]}, begin=3)
        form, answers = least_form(one, list("wxyz"))
        self.assertEqual(answers, ["z", "y", "x", "w"])
        self.assertEqual((form.begin, form.map_of("a"), form.map_of("b")), (0, [1, 1, 3, 3], [2, 3, 2, 3]))
        # What statements do to the value at hand stands ahead of its joins.
        two = Analysis(union_joins(3), {"a": [1, 1, 1, 5, 1, 5, 5, 5], "b": [2, 2, 4, 4, 4, 4, 4, 4][:1] * 8})
        self.assertEqual(least_form(two, list("stuvwxyz"))[1], slow_form(two, list("stuvwxyz"))[1])

    def test_results_are_new(self):
        asked_again(self, lambda: least_form(known_example(), ANSWERS))
        asked_again(self, lambda: same_values(known_example(), ANSWERS, known_example(), ANSWERS))


class SameValuesTest(unittest.TestCase):
    def check(self, one, mine, other, its):
        told = stays(self, [one, mine, other, its], lambda: same_values(one, mine, other, its))
        pairs = pair_list(one, other)
        if any(mine[u] != its[v] for u, v in pairs):
            self.assertIsNone(told)
            return 0
        ours, theirs = slow_classes(one, mine)[0], slow_classes(other, its)[0]
        self.assertEqual(len(told), len(set(ours) - {None}))
        for u, v in pairs:
            self.assertEqual(told[ours[u]], theirs[v])
        numbers, others = slow_form(one, mine)[2], slow_form(other, its)[2]
        self.assertEqual([numbers[value] for value in range(len(told))], [others[value] for value in told])
        return 1

    def test_alike_and_other_analyses(self):
        alike = parted = 0
        for dice, one, mine, other, its in some_analyses(783, 300, 5):
            if dice.below(2):
                its = list(its)
                for u, v in pair_list(one, other):
                    its[v] = mine[u]
            found = self.check(one, mine, other, its)
            alike, parted = alike + found, parted + (not found)
            self.assertEqual(self.check(one, mine, *moved_with(dice, one, mine)), 1)
            self.check(one, mine, one, some_answers(dice, one))
        self.assertGreater(min(alike, parted), 40)

    def test_the_same_one(self):
        for _, one, mine, _, _ in some_analyses(784, 60):
            self.assertEqual(same_values(one, mine, one, mine), list(range(len(least_of(one, mine)[0]))))

    def test_forms_that_differ_in_answers_alone(self):
        known = known_example()
        self.assertEqual(same_values(known, list("wxyz"), known, list("wxyz")), [0, 1, 2, 3])
        self.assertIsNone(same_values(known, list("wxyz"), known, list("wyxz")))
        self.assertIsNone(same_values(known, ["x"] * 4, known, ["y"] * 4))
        self.assertEqual(same_values(known, ["x"] * 4, Analysis(chain_joins(1), {s: [0] for s in "abt"}), ["x"]), [0])

    def test_values_that_do_not_come(self):
        one = Analysis(chain_joins(4), {"s": [0, 2, 2, 3]}, begin=1)
        other = Analysis(fork(), {"s": [2, 1, 2]}, begin=0)
        self.assertEqual(same_values(one, list("wxyz"), other, list("xwy")), [0, 1])
        self.assertIsNone(same_values(one, list("wxyz"), other, list("wxy")))

    def test_unlike(self):
        known = known_example()
        for other in (known.without(["a"]), known.renamed({"a": "c"}), known.with_map("c", [3] * 4)):
            for first, second in ((known, other), (other, known)):
                for answers in (ANSWERS, ["x"] * 4):
                    raised(self, Unlike, lambda: stays(self, [first, second], lambda: same_values(first, ANSWERS, second,
                                                                                                  answers)))

    def test_all_small_chains(self):
        ones = [Analysis(chain_joins(3), {"s": [a, b, c]}, begin=begin)
                for a, b, c in product(range(3), repeat=3) if a <= b <= c for begin in range(3)]
        for one, other in product(ones, repeat=2):
            for mine in (["x", "x", "y"], ["x", "y", "y"]):
                self.check(one, mine, other, ["x", "y", "y"])


if __name__ == "__main__":
    unittest.main()
