"""[70], [71] and [73]: least analyses, papers that show them, onto, stands_for; [9]."""

import unittest
from itertools import product

from factflows.analyses import Analysis
from factflows.contexts import context_of
from factflows.errors import NoStatement, TooMany, Unlike
from factflows.facts import facts_of
from factflows.joins import Joins, chain_joins, union_joins
from factflows.least import is_least_paper, least_of, least_paper, onto, stands_for
from factflows.pairs import are_alike, pair_list
from factflows.programs import Program
from tests.helper import (Dice, asked_again, fork, known_example, like_analysis, odd_values, raised, slow_classes,
                          slow_coming, slow_context, some_analyses, some_answers, some_program, spoilt, stays)
from tests.test_contexts import ANSWERS, slow_is_context
from tests.test_pairs import QUICK, climbers


def slow_least(analysis, answers):
    """The least analysis, reckoned from the classes by the words of the document."""
    classes, members = slow_classes(analysis, answers)
    rows = [[classes[analysis.joins.join(u, v)] for v in members] for u in members]
    maps = {s: [classes[analysis.map_of(s)[u]] for u in members] for s in analysis.statements()}
    return Analysis(Joins(rows), maps, begin=classes[analysis.begin]), [answers[u] for u in members], classes


def slow_is_paper(analysis, answers, thing):
    if type(thing) is not tuple or len(thing) != 2 or type(thing[0]) is not list or len(thing[0]) != len(analysis):
        return False
    classes, contexts = thing
    coming = slow_coming(analysis)
    if any((type(number) is not int) if value in coming else (number is not None) for value, number in enumerate(classes)):
        return False
    numbers = {classes[value] for value in coming}
    if numbers != set(range(len(numbers))):
        return False
    for u, v in product(coming, repeat=2):
        if classes[u] == classes[v]:
            made = [(analysis.map_of(s)[u], analysis.map_of(s)[v]) for s in analysis.statements()]
            made += [(analysis.joins.join(u, w), analysis.joins.join(v, w)) for w in coming]
            if answers[u] != answers[v] or any(classes[x] != classes[y] for x, y in made):
                return False
    if type(contexts) is not list or len(contexts) != len(numbers) * (len(numbers) - 1) // 2:
        return False
    wanted = [(i, j) for i in range(len(numbers)) for j in range(len(numbers)) if i < j]
    for (i, j), row in zip(wanted, contexts):
        if type(row) is not tuple or len(row) != 3 or type(row[0]) is not int or type(row[1]) is not int:
            return False
        u, v = classes.index(i), classes.index(j)
        if row[:2] != (i, j) or not slow_is_context(analysis, answers, u, v, row[2]):
            return False
    return True


class ExamplesTest(unittest.TestCase):
    def test_as_written(self):
        self.assertEqual(least_of(QUICK, ["no", "yes", "yes"])[1:], (["no", "yes"], [0, 1, 1]))
        self.assertEqual(stands_for(known_example(), ANSWERS, "a", "t"), ("not", 0, []))


class LeastOfTest(unittest.TestCase):
    def test_against_a_slow_reckoning(self):
        less = 0
        for dice, one, answers, _, _ in some_analyses(710, 200):
            told = stays(self, [one, answers], lambda: least_of(one, answers))
            self.assertIs(type(told), tuple)
            self.assertEqual(told, slow_least(one, answers))
            less += 1 < len(told[0]) < len(slow_coming(one))
            if len(one) <= 8:
                # Values beside those of one, for which the question does not ask.
                both = one * Analysis(chain_joins(2), {s: [at & 1, 1] for at, s in enumerate(one.statements())})
                answered = [answers[value // 2] for value in range(len(both))]
                order = dice.shuffled(range(len(both)))
                both = both.moved(order)
                answered = [answered[order.index(value)] for value in range(len(both))]
                told = least_of(both, answered)
                self.assertEqual(told, slow_least(both, answered))
                less += 1 < len(told[0]) < len(slow_coming(both))
        self.assertGreater(less, 50)

    def test_answers_that_are_all_equal_and_all_different(self):
        for _, one, _, _, _ in some_analyses(711, 80):
            equal = least_of(one, ["x"] * len(one))
            self.assertEqual((len(equal[0]), equal[1]), (1, ["x"]))
            different = least_of(one, list("abcdefghijklmnopqrstuvwxyz"[:len(one)]))
            restricted, values = one.restricted()
            self.assertEqual(different[0], restricted)
            self.assertEqual([value for value in range(len(one)) if different[2][value] is not None], values)

    def test_it_is_alike_and_its_own_least_one(self):
        """[9]"""
        for _, one, answers, _, _ in some_analyses(712, 150):
            least, told, classes = least_of(one, answers)
            self.assertEqual(are_alike(one, answers, least, told)[0], "alike")
            self.assertEqual(least_of(least, told), (least, told, list(range(len(least)))))
            self.assertEqual(onto(least, told, one, answers), classes)

    def test_no_alike_one_has_fewer_values(self):
        """[9]"""
        found = 0
        for dice, one, answers, other, its in some_analyses(713, 400, 4):
            its = some_answers(dice, other) if dice.below(2) else its
            if are_alike(one, answers, other, its)[0] == "alike":
                least, told, _ = least_of(one, answers)
                self.assertLessEqual(len(least), len(other))
                theirs, answered, _ = least_of(other, its)
                self.assertEqual((len(theirs), sorted(answered)), (len(least), sorted(told)))
                found += 1
        self.assertGreater(found, 30)

    def test_the_answers_in_drawn_programs(self):
        dice = Dice(714)
        for _, one, answers, _, _ in some_analyses(715, 120):
            least, told, classes = least_of(one, answers)
            for _ in range(4):
                program = some_program(dice, one.statements())
                for fact, its in zip(facts_of(one, program), facts_of(least, program)):
                    if fact is not None:
                        self.assertEqual(told[its], answers[fact])
                        self.assertEqual(its, classes[fact])

    def test_values_that_do_not_come(self):
        one = Analysis(chain_joins(5), {"a": [2, 2, 3, 3, 4]}, begin=1)
        least, told, classes = least_of(one, ["x", "no", "no", "yes", "y"])
        self.assertEqual((told, classes), (["no", "no", "yes"], [None, 0, 1, 2, None]))
        self.assertEqual(least, Analysis(chain_joins(3), {"a": [1, 2, 2]}))
        self.assertEqual(least_of(Analysis(fork(), {}, begin=1), list("xyz")),
                         (Analysis(Joins([[0]]), {}), ["y"], [None, 0, None]))

    def test_classes_are_numbered_by_their_least_members(self):
        one = Analysis(union_joins(2), {"a": [1] * 4, "b": [2] * 4}, begin=2)
        self.assertEqual(one.coming(), [1, 2, 3])
        self.assertEqual(least_of(one, ["p", "z", "a", "z"])[1:], (["z", "a"], [None, 0, 1, 0]))

    def test_results_are_new(self):
        asked_again(self, lambda: least_of(known_example(), ANSWERS))
        asked_again(self, lambda: least_paper(known_example(), ANSWERS))
        asked_again(self, lambda: onto(QUICK, list("xyy"), QUICK, list("xyy")))
        asked_again(self, lambda: stands_for(known_example(), ANSWERS, "a", "b"))

    def test_great_analyses(self):
        one = Analysis(union_joins(6), {"a": [u | 1 for u in range(64)], "b": [u << 1 & 63 for u in range(64)]})
        answers = ["odd" if bin(u).count("1") & 1 else "even" for u in range(64)]
        least, told, classes = least_of(one, answers)
        self.assertEqual(least_of(least, told)[0], least)
        self.assertEqual(len(set(classes)), len(least))
        paper = least_paper(one, answers)
        self.assertEqual(paper[0], classes)
        self.assertIs(is_least_paper(one, answers, paper), True)


class LeastPaperTest(unittest.TestCase):
    def check(self, one, answers, thing):
        told = stays(self, [one, answers, thing], lambda: is_least_paper(one, answers, thing))
        self.assertIs(told, slow_is_paper(one, answers, thing))
        return told

    def test_against_a_slow_reckoning(self):
        for _, one, answers, _, _ in some_analyses(720, 250):
            classes, members = slow_classes(one, answers)
            wanted = [(i, j, slow_context(one, answers, members[i], members[j]))
                      for j in range(len(members)) for i in range(j)]
            told = stays(self, [one, answers], lambda: least_paper(one, answers))
            self.assertEqual(told, (classes, sorted(wanted)))
            self.assertEqual((type(told), type(told[1])), (tuple, list))
            self.assertIs(self.check(one, answers, told), True)

    def test_papers_spoilt(self):
        right = wrong = 0
        for dice, one, answers, _, _ in some_analyses(721, 300):
            paper = least_paper(one, answers)
            for _ in range(8):
                told = self.check(one, answers, spoilt(dice, paper))
                right, wrong = right + told, wrong + (not told)
        self.assertGreater(wrong, 500)
        self.assertGreater(right, 10)

    def test_longer_contexts_and_other_numbers(self):
        moved = 0
        for dice, one, answers, _, _ in some_analyses(722, 250):
            classes, contexts = least_paper(one, answers)
            longer = [(i, j, [("join", one.begin)] * 2 + context) for i, j, context in contexts]
            self.check(one, answers, (classes, longer))
            members = [classes.index(number) for number in range(len(set(classes) - {None}))]
            order = dice.shuffled(range(len(members)))
            numbered = [None if number is None else order[number] for number in classes]
            leasts = [numbered.index(number) for number in range(len(members))]
            parting = [(i, j, context_of(one, answers, leasts[i], leasts[j]))
                       for i in range(len(members)) for j in range(i + 1, len(members))]
            self.assertIs(self.check(one, answers, (numbered, parting)), True)
            self.assertIs(self.check(one, answers, (numbered, parting[::-1])), len(parting) < 2)
            moved += order != sorted(order)
        self.assertGreater(moved, 40)

    def test_classes_that_are_too_great_or_too_small(self):
        for dice, one, answers, _, _ in some_analyses(723, 250):
            coming = slow_coming(one)
            for _ in range(4):
                numbers = [dice.below(1 + dice.below(3)) for _ in range(len(one))]
                classes = [number if value in coming else None for value, number in enumerate(numbers)]
                members = [classes.index(number) for number in range(3) if number in classes]
                contexts = [(i, j, context_of(one, answers, members[i], members[j]) or [])
                            for i in range(len(members)) for j in range(i + 1, len(members))]
                self.check(one, answers, (classes, contexts))
            own = [coming.index(value) if value in coming else None for value in range(len(one))]
            contexts = [(i, j, context_of(one, answers, coming[i], coming[j]) or [])
                        for i in range(len(coming)) for j in range(i + 1, len(coming))]
            self.check(one, answers, (own, contexts))

    def test_small_spoils(self):
        known = known_example()
        classes, contexts = least_paper(known, ANSWERS)
        self.assertEqual(classes, [0, 1, 2, 3])
        self.assertIs(self.check(known, ANSWERS, (classes, contexts)), True)
        for thing in ([classes, contexts], (classes, contexts, 0), (classes,), (), (classes, tuple(contexts)),
                      (tuple(classes), contexts), (classes[:3], contexts), (classes + [None], contexts),
                      ([False, 1, 2, 3], contexts), ([0, True, 2, 3], contexts), ([0, 1, 2, None], contexts),
                      ([0, 1, 2, 4], contexts), ([0, 1, 2, 2], contexts[:3]), ([1, 2, 3, 4], contexts),
                      ([0, 1, 2, -1], contexts), ([0, 1, 2, 2 ** 80], contexts), ([0, 1, 2, "3"], contexts),
                      ([0, 0, 0, 0], []), (classes, contexts[:5]), (classes, contexts + contexts[:1]), (classes, []),
                      (classes, contexts[1:] + contexts[:1]), (classes, [list(contexts[0])] + contexts[1:]),
                      (classes, [(False, 1, [])] + contexts[1:]), (classes, [(0, True, [])] + contexts[1:]),
                      (classes, [(0, 1)] + contexts[1:]), (classes, [(0, 1, [], 0)] + contexts[1:]),
                      (classes, [(0, 1, ())] + contexts[1:]), (classes, [(0, 1, None)] + contexts[1:]),
                      (classes, [(1, 0, [])] + contexts[1:]), (classes, [(0, 1, [("join", 3)])] + contexts[1:]),
                      (classes, [None] + contexts[1:]), (contexts, classes), {0: classes, 1: contexts}):
            self.assertIs(self.check(known, ANSWERS, thing), False)
        self.assertIs(self.check(known, ANSWERS, (classes, [(0, 1, [("join", 0)])] + contexts[1:])), True)

    def test_values_that_do_not_come(self):
        one = Analysis(chain_joins(4), {"a": [0, 2, 2, 3]}, begin=1)
        self.assertEqual(least_paper(one, list("wxyz")), ([None, 0, 1, None], [(0, 1, [])]))
        for classes, wanted in [([None, 0, 1, None], True), ([0, 0, 1, None], False), ([None, 0, 1, 1], False),
                                ([None, 1, 0, None], True), ([None, None, 0, None], False)]:
            self.assertIs(self.check(one, list("wxyz"), (classes, [(0, 1, [])])), wanted)
        self.assertIs(self.check(one, list("wxyz"), ([None, 0, 1, None], [(0, 1, [("join", 0)])])), False)
        self.assertIs(self.check(one, list("wxyz"), ([None, 0, 1, None], [(0, 1, [("join", 1)])])), True)

    def test_other_values(self):
        known = known_example()
        classes, contexts = least_paper(known, ANSWERS)
        for thing in odd_values():
            for made in (thing, (thing, contexts), (classes, thing), (classes, contexts[:5] + [thing]),
                         ([0, 1, 2, thing], contexts), (classes, [(0, 1, thing)] + contexts[1:])):
                self.assertIs(self.check(known, ANSWERS, made), False)


class OntoTest(unittest.TestCase):
    def test_against_the_pairs(self):
        found = unlike = 0
        for dice, one, mine, other, its in some_analyses(730, 300):
            if dice.below(2):
                its = list(its)
                for u, v in pair_list(one, other):
                    its[v] = mine[u]
            alike = all(mine[u] == its[v] for u, v in pair_list(one, other))
            call = lambda: stays(self, [one, mine, other, its], lambda: onto(one, mine, other, its))
            if not alike:
                raised(self, Unlike, call)
                unlike += 1
                continue
            told, (classes, _) = call(), slow_classes(one, mine)
            self.assertEqual(len(told), len(other))
            for v in range(len(other)):
                made = {classes[u] for u, at in pair_list(one, other) if at == v}
                self.assertEqual(made, {told[v]} - {None})
            found += 1
        self.assertGreater(min(found, unlike), 40)

    def test_other_numbers_and_more_values(self):
        more = 0
        for dice, one, mine, _, _ in some_analyses(731, 150):
            order = dice.shuffled(range(len(one)))
            its = [mine[order.index(value)] for value in range(len(one))]
            classes = least_of(one, mine)[2]
            told = onto(one, mine, one.moved(order), its)
            self.assertEqual([told[order[value]] for value in range(len(one))], classes)
            if len(one) <= 16:
                # Values beside those of one, which come for more than one of its own.
                count = Analysis(chain_joins(3), {s: [min(v + 1, 2) for v in range(3)] for s in one.statements()})
                both = one * count
                told = onto(one, mine, both, [mine[value // 3] for value in range(len(both))])
                coming = both.coming()
                self.assertEqual(told, [classes[value // 3] if value in coming else None for value in range(len(both))])
                more += len(coming) > len(one.coming())
        self.assertGreater(more, 20)

    def test_errors_in_their_order(self):
        one, other = climbers(3, 4)
        mine, its = ["x"] * 3, ["x"] * 4
        self.assertEqual(onto(one, mine, other, its), [0, 0, 0, 0])
        self.assertEqual(onto(one, mine, other, its, most=12), [0, 0, 0, 0])
        for most in (1, 11):
            for answers in (its, ["y"] * 4, ["x", "x", "x", "y"]):
                self.assertEqual(raised(self, TooMany, lambda: onto(one, mine, other, answers, most=most)).limit, most)
                unlike = other.without(["a"])
                raised(self, Unlike, lambda: onto(one, mine, unlike, answers, most=most))
        for most in (12, 600, 2000):
            raised(self, Unlike, lambda: onto(one, mine, other, ["x", "x", "x", "y"], most=most))
        one, other = climbers(25, 25)
        self.assertEqual(raised(self, TooMany, lambda: onto(one, ["x"] * 25, other, ["y"] * 25)).limit, 600)
        raised(self, Unlike, lambda: onto(one, ["x"] * 25, other, ["y"] * 25, most=625))


class StandsForTest(unittest.TestCase):
    def test_against_a_slow_reckoning(self):
        always = never = 0
        for dice, one, answers, _, _ in some_analyses(740, 300, names=("a", "b", "ab")):
            if dice.below(3) == 0:
                one = one.with_map("b", one.map_of("a"))
            for name, other in product(one.statements(), repeat=2):
                told = stays(self, [one, answers], lambda: stands_for(one, answers, name, other))
                contexts = [(value, slow_context(one, answers, one.map_of(name)[value], one.map_of(other)[value]))
                            for value in slow_coming(one)]
                parted = [("not", value, context) for value, context in contexts if context is not None]
                self.assertEqual(told, parted[0] if parted else ("always",))
                always, never = always + (not parted and name != other), never + bool(parted)
            self.assertEqual(stands_for(one, answers, "a", "a"), ("always",))
        self.assertGreater(min(always, never), 40)

    def test_the_answers_of_programs_with_other_edges(self):
        dice, always = Dice(741), 0
        for _, one, answers, _, _ in some_analyses(742, 150):
            if stands_for(one, answers, "a", "b") == ("always",):
                always += 1
                for _ in range(5):
                    program = some_program(dice, ["a", "b"])
                    changed = [(m, "b" if s == "a" and dice.below(2) else s, n) for m, s, n in program.edges()]
                    other = Program(program.places, program.begins(), changed)
                    for fact, its in zip(facts_of(one, program), facts_of(one, other)):
                        if fact is not None:
                            self.assertEqual(answers[fact], answers[its])
        self.assertGreater(always, 20)

    def test_values_that_do_not_come_mean_nothing(self):
        one = Analysis(chain_joins(4), {"a": [0, 2, 2, 3], "b": [1, 2, 2, 2]}, begin=1)
        self.assertEqual(stands_for(one, list("wxyz"), "a", "b"), ("always",))
        more = Analysis(chain_joins(4), {"a": [0, 2, 2, 3], "b": [1, 2, 3, 3]}, begin=1)
        self.assertEqual(stands_for(more, list("wxyz"), "a", "b"), ("not", 2, []))
        self.assertEqual(stands_for(more, list("wxyy"), "a", "b"), ("always",))

    def test_no_statement(self):
        known = known_example()
        for name, other, wanted in [("x", "a", "x"), ("a", "x", "x"), ("x", "y", "x"), ("y", "x", "y"), ("x", "x", "x")]:
            call = lambda: stays(self, [known], lambda: stands_for(known, ANSWERS, name, other))
            self.assertEqual(raised(self, NoStatement, call).name, wanted)


class LikeAnalysisTest(unittest.TestCase):
    def test_trials_have_alike_and_other_analyses(self):
        dice = Dice(750)
        kinds = [are_alike(QUICK, list("xyy"), other, list("xyy"))[0]
                 for other in (like_analysis(dice, QUICK) for _ in range(40)) if len(other) == 3]
        self.assertEqual(sorted(set(kinds)), ["alike", "parted"])


if __name__ == "__main__":
    unittest.main()
