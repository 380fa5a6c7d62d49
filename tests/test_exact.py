"""[72]: the analysis that knows all path values, and exactness; [11]; of [4] TooMany(64) ahead of TooMany(most)."""

import unittest
from itertools import combinations

from factflows.analyses import Analysis
from factflows.errors import TooMany
from factflows.exact import exact_of, exactness
from factflows.facts import facts_of
from factflows.joins import Joins, chain_joins, union_joins
from factflows.pairs import are_alike, pair_list
from factflows.paths import path_fact, path_values
from factflows.programs import Program
from tests.helper import (Dice, asked_again, fork, has_loop, keeping_analysis, known_example, longest_path, raised,
                          slow_layers, some_analyses, some_answers, some_program, stays)
from tests.test_contexts import ANSWERS
from tests.test_losses import constants, path_words


def slow_exact(analysis):
    """The values stand for all sets of path values but the empty one."""
    values = sorted(path_words(analysis))
    sets = sorted(some for many in range(1, len(values) + 1) for some in combinations(values, many))
    rows = [[sets.index(tuple(sorted({*some, *other}))) for other in sets] for some in sets]
    maps = {s: [sets.index(tuple(sorted({analysis.map_of(s)[value] for value in some}))) for some in sets]
            for s in analysis.statements()}
    return Analysis(Joins(rows), maps, begin=sets.index((analysis.begin,))), sets


def ladder(many, values=12):
    """An analysis with just so many path values, and others that are none."""
    return Analysis(chain_joins(values), {"s": [min(u + 1, max(many - 1, u)) for u in range(values)]})


def few(seed, many, names=("b", "a")):
    """Drawn analyses of at most five path values, with answers: also such that lose, and that keep joins."""
    for at, (dice, one, _, _, _) in enumerate(some_analyses(seed, many, names=names)):
        if at % 3 == 0:
            one = constants(2 + dice.below(2), 2 + dice.below(2))
            one = one.renamed({"t": "ab", "c": "t"}).moved(dice.shuffled(range(len(one))))
        elif at % 3 == 1:
            one = keeping_analysis(dice, list(names))
        if len(path_words(one)) <= 5:
            yield dice, one, some_answers(dice, one)


class ExamplesTest(unittest.TestCase):
    def test_as_written(self):
        known = known_example()
        self.assertEqual([exact_of(known)[1][:3], exactness(known, ANSWERS)[:2]],
                         [[(0,), (0, 1), (0, 1, 2)], ("loses", (3, 1))])


class ExactOfTest(unittest.TestCase):
    def test_against_a_slow_reckoning(self):
        kept = lossy = 0
        for _, one, _ in few(760, 250):
            told = stays(self, [one], lambda: exact_of(one))
            self.assertIs(type(told), tuple)
            self.assertEqual(told, slow_exact(one))
            kept, lossy = kept + (one.unkept() is None), lossy + (one.unkept() is not None)
        self.assertGreater(min(kept, lossy), 40)

    def test_it_keeps_joins_and_its_facts_are_the_path_values(self):
        """[11]"""
        dice = Dice(761)
        for _, one, _ in few(762, 100):
            exact, sets = exact_of(one)
            self.assertIsNone(exact.unkept())
            for _ in range(5):
                program = some_program(dice, one.statements())
                for place, fact in enumerate(facts_of(exact, program)):
                    known = path_values(one, program, place)
                    self.assertEqual([] if fact is None else list(sets[fact]), known)

    def test_a_single_path_value(self):
        self.assertEqual(exact_of(Analysis(fork(), {}, begin=1)), (Analysis(Joins([[0]]), {}), [(1,)]))
        self.assertEqual(exact_of(Analysis(fork(), {"a": [2, 2, 2]}, begin=2)),
                         (Analysis(Joins([[0]]), {"a": [0]}), [(2,)]))

    def test_the_most_sets(self):
        # Six path values have 63 sets, seven have 127.
        self.assertEqual(len(exact_of(ladder(6))[0]), 63)
        self.assertEqual(exact_of(ladder(6)), slow_exact(ladder(6)))
        for many in (7, 8, 12):
            self.assertEqual(raised(self, TooMany, lambda: stays(self, [ladder(many)], lambda: exact_of(ladder(many)))).limit,
                             64)
        great = Analysis(chain_joins(64), {"s": [min(u + 1, 63) for u in range(64)]})
        self.assertEqual(raised(self, TooMany, lambda: exact_of(great)).limit, 64)
        # Values that come by joins alone are no path values.
        wide = Analysis(union_joins(5), {"abcde"[at]: [1 << at] * 32 for at in range(5)})
        self.assertEqual(len(wide.coming()), 32)
        self.assertEqual(len(exact_of(wide)[1]), 63)

    def test_results_are_new(self):
        asked_again(self, lambda: exact_of(known_example()))
        asked_again(self, lambda: exactness(known_example(), ANSWERS))
        asked_again(self, lambda: exactness(known_example(), ["x"] * 4))


class ExactnessTest(unittest.TestCase):
    def test_against_the_pairs(self):
        exact = lossy = 0
        for _, one, answers in few(763, 300):
            other, sets = slow_exact(one)
            known = [answers[one.joins.join_all(list(some))] for some in sets]
            layers = slow_layers(one, other)
            breaking = [[(u, v) for u, v in layer if answers[u] != known[v]] for layer in layers]
            told = stays(self, [one, answers], lambda: exactness(one, answers))
            if not any(breaking):
                self.assertEqual(told, ("exact", sorted(sum(layers, []))))
                exact += 1
                continue
            at = [bool(layer) for layer in breaking].index(True)
            self.assertEqual(told[:2], ("loses", min(breaking[at])))
            self.assertEqual(len(told), 4)
            program, place = told[2:]
            self.assertFalse(has_loop(program))
            self.assertLessEqual(longest_path(program), at)
            self.assertEqual(facts_of(one, program)[place], told[1][0])
            self.assertEqual(tuple(path_values(one, program, place)), sets[told[1][1]])
            self.assertNotEqual(answers[told[1][0]], answers[path_fact(one, program, place)])
            lossy += 1
        self.assertGreater(min(exact, lossy), 20)

    def test_the_facts_and_path_facts_of_drawn_programs(self):
        dice, told = Dice(764), 0
        for _, one, answers in few(765, 150):
            if exactness(one, answers)[0] == "exact":
                for _ in range(5):
                    program = some_program(dice, one.statements())
                    for place in program.reached():
                        fact, known = facts_of(one, program)[place], path_fact(one, program, place)
                        self.assertEqual(answers[fact], answers[known])
                        told += fact != known
        self.assertGreater(told, 0)

    def test_analyses_that_keep_joins_are_exact(self):
        dice, told = Dice(766), 0
        for _ in range(100):
            one = keeping_analysis(dice, ["a", "b"])
            if len(path_words(one)) <= 6:
                answers = some_answers(dice, one)
                self.assertEqual(exactness(one, answers), ("exact", pair_list(one, exact_of(one)[0])))
                told += 1
        self.assertGreater(told, 60)

    def test_just_as_many_as_needed_and_less_by_one(self):
        for _, one, answers in few(767, 60):
            exact, _ = exact_of(one)
            many = len(pair_list(one, exact))
            told = exactness(one, answers)
            self.assertEqual(exactness(one, answers, most=many), told)
            for most in sorted({1, many - 1} - {0}):
                if most < many:
                    call = lambda: stays(self, [one, answers], lambda: exactness(one, answers, most=most))
                    self.assertEqual(raised(self, TooMany, call).limit, most)

    def test_too_many_sets_ahead_of_too_many_pairs(self):
        for many in (7, 12):
            for most in (1, 63, 600, 2000):
                call = lambda: exactness(ladder(many), ["x"] * 12, most=most)
                self.assertEqual(raised(self, TooMany, call).limit, 64)
        self.assertEqual(raised(self, TooMany, lambda: exactness(ladder(6), ["x"] * 12, most=1)).limit, 1)
        self.assertEqual(exactness(ladder(6), ["x"] * 12, most=63)[0], "exact")

    def test_it_is_what_are_alike_returns(self):
        for _, one, answers in few(768, 100):
            exact, sets = exact_of(one)
            known = [answers[one.joins.join_all(list(some))] for some in sets]
            told, alike = exactness(one, answers), are_alike(one, answers, exact, known)
            self.assertEqual(told[1:2], alike[1:2])
            self.assertEqual((told[0], alike[0]) in (("exact", "alike"), ("loses", "parted")), True)

    def test_an_answer_that_asks_for_less_is_exact(self):
        known = known_example()
        self.assertEqual(exactness(known, ["no", "yes", "no", "yes"])[0], "exact")
        told = exactness(known, ANSWERS)
        self.assertEqual(facts_of(known, told[2])[told[3]], 3)
        self.assertIs(type(told[2]), Program)


if __name__ == "__main__":
    unittest.main()
