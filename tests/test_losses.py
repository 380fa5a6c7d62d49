"""[63]: tuples that path values make, and joins that lose; [10]."""

import unittest
from itertools import combinations, product

from factflows.analyses import Analysis
from factflows.facts import facts_of
from factflows.joins import Joins, chain_joins, union_joins
from factflows.losses import are_tables, is_fewest, is_loss, losing_program, loss_of
from factflows.paths import lost, path_fact
from factflows.programs import Program
from tests.helper import (Dice, asked_again, keeping_analysis, known_example, odd_values, shifting_analysis,
                          some_analysis, some_program, spoilt, stays)

NAMES = ["b", "a"]


def path_words(analysis):
    """All path values with the shortest words."""
    words = {analysis.begin: ()}
    level = [analysis.begin]
    while level:
        behind = []
        for value in level:
            for name in analysis.statements():
                made = analysis.do((name,), value=value)
                if made not in words:
                    words[made] = words[value] + (name,)
                    behind.append(made)
        level = behind
    return words


def joined_all(analysis, values):
    joined = values[0]
    for value in values:
        joined = analysis.joins.rows()[joined][value]
    return joined


def made_tuple(analysis, name, values):
    return joined_all(analysis, values), joined_all(analysis, [analysis.do((name,), value=value) for value in values])


def is_right(analysis, name, row):
    return analysis.do((name,), value=row[0]) == row[1]


def made_rows(analysis, name, many):
    """All tuples that at most many path values make."""
    values = sorted(path_words(analysis))
    return {made_tuple(analysis, name, some) for size in range(1, min(many, len(values)) + 1)
            for some in combinations(values, size)}


def slow_loss(analysis):
    """None, or the fewest words by which something is lost, and the fewest statements of so many words."""
    words = path_words(analysis)
    for size in range(1, len(words) + 1):
        costs = [sum(len(words[value]) for value in some) for some in combinations(sorted(words), size)
                 for name in analysis.statements() if not is_right(analysis, name, made_tuple(analysis, name, some))]
        if costs:
            return size, min(costs)
    return None


def slow_tables(analysis, many):
    return [(name, sorted(made_rows(analysis, name, many))) for name in analysis.statements()]


def are_right_tables(analysis, thing):
    if type(thing) is not list or len(thing) != len(analysis.statements()):
        return False
    for name, table in zip(analysis.statements(), thing):
        if type(table) is not tuple or len(table) != 2 or type(table[0]) is not str or table[0] != name:
            return False
        if type(table[1]) is not list:
            return False
        for row in table[1]:
            if type(row) is not tuple or len(row) != 2 or type(row[0]) is not int or type(row[1]) is not int:
                return False
            if not 0 <= row[0] < len(analysis) or not 0 <= row[1] < len(analysis) or not is_right(analysis, name, row):
                return False
        if len(set(table[1])) != len(table[1]):
            return False
    return True


def slow_are_tables(analysis, thing):
    if not are_right_tables(analysis, thing):
        return False
    rows = analysis.joins.rows()
    return all(made_rows(analysis, name, 1) <= set(table) and
               all((rows[x][u], rows[y][v]) in table for x, y in table for u, v in table) for name, table in thing)


def slow_is_fewest(analysis, many, thing):
    return are_right_tables(analysis, thing) and all(made_rows(analysis, name, many) <= set(table)
                                                     for name, table in thing)


def slow_is_loss(analysis, thing):
    if type(thing) is not tuple or len(thing) != 2 or type(thing[0]) is not list or not thing[0]:
        return False
    for word in thing[0]:
        if type(word) is not tuple or any(type(name) is not str or name not in analysis.statements() for name in word):
            return False
    if len(set(thing[0])) != len(thing[0]) or type(thing[1]) is not str or thing[1] not in analysis.statements():
        return False
    return not is_right(analysis, thing[1], made_tuple(analysis, thing[1], [analysis.do(word) for word in thing[0]]))


def constants(digits, many):
    """Over sets of digits: a statement brings one digit alone, for each, and another one keeps sets with many digits;
    so that many words are needed to lose."""
    values = 1 << digits
    maps = {"abcdef"[at]: [1 << at] * values for at in range(digits)}
    maps["t"] = [value if bin(value).count("1") >= many else 0 for value in range(values)]
    return Analysis(union_joins(digits), maps)


def covering(dice):
    """Over sets of five digits: two sets are brought, and turned around digit by digit; only what has nearly all digits
    is kept. So words whose sets overlap have to be chosen."""
    values = range(32)
    turned = [(value << 1 | value >> 4) & 31 for value in values]
    sets = [1 << dice.below(5) | 1 << dice.below(5) for _ in range(2)]
    needs = [31 ^ (dice.below(2) << dice.below(5)) for _ in range(1 + dice.below(2))]
    maps = {"a": turned, "b": [sets[0]] * 32, "c": [sets[1]] * 32,
            "t": [31 if any(value & need == need for need in needs) else 0 for value in values]}
    return Analysis(union_joins(5), maps).moved(dice.shuffled(values))


def losing_trials(seed, many):
    dice = Dice(seed)
    for at in range(many):
        if at % 4 == 0:
            yield dice, keeping_analysis(dice, NAMES)
        elif at % 4 == 1:
            yield dice, constants(3, 2 + dice.below(2)).moved(dice.shuffled(range(8)))
        else:
            yield dice, some_analysis(dice, NAMES)


class ExamplesTest(unittest.TestCase):
    def test_as_written(self):
        known = known_example()
        self.assertEqual(loss_of(known)[:3], ("loses", [("a",), ("b",)], "t"))
        program, place = losing_program([("a",), ("b",)], "t")
        self.assertEqual([facts_of(known, program), place], [[0, 3, 3], 2])


class LossOfTest(unittest.TestCase):
    def check(self, one):
        told = stays(self, [one], lambda: loss_of(one))
        wanted = slow_loss(one)
        self.assertIs(type(told), tuple)
        if wanted is None:
            self.assertEqual(told, ("keeps", slow_tables(one, len(one))))
            self.assertIs(are_tables(one, told[1]), True)
            return 0
        kind, words, name, tables = told
        self.assertEqual((kind, len(told)), ("loses", 4))
        self.assertEqual(words, sorted(set(words)))
        self.assertEqual((len(words), sum(len(word) for word in words)), wanted)
        self.assertTrue(slow_is_loss(one, (words, name)))
        self.assertIs(is_loss(one, (words, name)), True)
        self.assertEqual(tables, slow_tables(one, len(words) - 1))
        self.assertIs(is_fewest(one, len(words) - 1, tables), True)
        return len(words)

    def test_against_a_slow_search(self):
        counts = [self.check(one) for _, one in losing_trials(600, 400)]
        self.assertGreater(counts.count(0), 50)
        self.assertGreater(counts.count(2), 20)
        self.assertGreater(counts.count(3), 20)

    def test_as_many_words_as_digits(self):
        for digits, many in ((3, 2), (3, 3), (4, 2), (4, 3), (4, 4), (5, 5)):
            one = constants(digits, many)
            self.assertEqual(self.check(one), many)
        self.assertEqual(self.check(constants(4, 1)), 0)

    def test_as_few_statements_as_possible(self):
        # Digits that are reached by longer and longer words: which of them lose is drawn.
        dice, costs = Dice(609), {}
        for at in range(150):
            one = shifting_analysis(dice, 3 if at % 10 else 4)
            size = self.check(one)
            if size:
                costs.setdefault(size, set()).add(slow_loss(one)[1])
        self.assertGreater(len(costs[2]), 3)
        self.assertGreater(len(costs[3]), 2)

    def test_words_whose_sets_overlap(self):
        dice, costs = Dice(610), {}
        for _ in range(60):
            one = covering(dice)
            told, wanted = loss_of(one), slow_loss(one)
            self.assertEqual((len(told[1]), sum(len(word) for word in told[1])), wanted)
            self.assertTrue(slow_is_loss(one, told[1:3]))
            self.assertEqual(told[3], slow_tables(one, len(told[1]) - 1))
            costs.setdefault(wanted[0], set()).add(wanted[1])
        self.assertGreater(len(costs[3]), 2)
        self.assertIn(4, costs)

    def test_the_fewest_words_ahead_of_the_fewest_statements(self):
        # Two words of four statements together lose, and so do three of three.
        every = range(32)
        maps = {"a": [8 * (u >> 2 & 1) | 16 * (u >> 3 & 1) for u in every], "c": [1] * 32, "d": [2] * 32, "e": [4] * 32,
                "t": [int(u & 17 == 17 or u & 7 == 7) for u in every]}
        one = Analysis(union_joins(5), maps)
        self.assertEqual(loss_of(one)[:3], ("loses", [("c",), ("e", "a", "a")], "t"))
        self.assertEqual(slow_loss(one), (2, 4))
        maps["t"] = [int(u & 7 == 7) for u in every]
        self.assertEqual(loss_of(Analysis(union_joins(5), maps))[:3], ("loses", [("c",), ("d",), ("e",)], "t"))

    def test_an_analysis_may_lose_though_joins_of_what_comes_are_kept(self):
        # The statement loses only at values that are no joins of path values.
        one = Analysis(union_joins(2), {"t": [0, 0, 0, 3]})
        self.assertEqual(one.unkept(), ("t", 1, 2))
        self.assertEqual(loss_of(one), ("keeps", [("t", [(0, 0)])]))
        self.assertEqual(loss_of(Analysis(union_joins(2), {})), ("keeps", []))

    def test_great_analyses(self):
        # A chain loses nothing; sets that are drawn up digit by digit lose only by the word with all of them.
        chain = Analysis(chain_joins(64), {"s": [min(u + 1, 63) for u in range(64)], "t": [0] * 63 + [63]})
        self.assertEqual(loss_of(chain), ("keeps", [(name, [(u, chain.map_of(name)[u]) for u in range(64)])
                                                    for name in "st"]))
        self.assertEqual(self.check_only(constants(5, 5))[:3], ("loses", [(name,) for name in "abcde"], "t"))

    def check_only(self, one):
        told = loss_of(one)
        self.assertIs(is_loss(one, told[1:3]), True)
        return told

    def test_results_are_new(self):
        asked_again(self, lambda: loss_of(known_example()))
        asked_again(self, lambda: loss_of(Analysis(chain_joins(3), {"a": [0, 1, 2], "b": [1, 1, 2]})))
        asked_again(self, lambda: losing_program([(), ("a",)], "t"))


class FactsTest(unittest.TestCase):
    """[10]"""

    def test_programs(self):
        dice, kept, lossy = Dice(601), 0, 0
        for _, one in losing_trials(602, 250):
            told = loss_of(one)
            if told[0] == "keeps":
                for _ in range(4):
                    program = some_program(dice, one.statements())
                    self.assertEqual(lost(one, program), [])
                kept += 1
            else:
                program, place = losing_program(told[1], told[2])
                self.assertIn(place, [row[0] for row in lost(one, program)])
                lossy += 1
        self.assertGreater(min(kept, lossy), 50)


class LosingProgramTest(unittest.TestCase):
    def test_as_told(self):
        for words, statement, wanted in [
                ([("a",)], "t", (Program(3, [0], [(0, "a", 1), (1, "t", 2)]), 2)),
                ([()], "t", (Program(3, [0, 1], [(1, "t", 2)]), 2)),
                ([(), ("a",)], "a", (Program(3, [0, 1], [(0, "a", 1), (1, "a", 2)]), 2)),
                ([(), ("a", "b", "c"), ("a", "c"), ("b",)], "t",
                 (Program(6, [0, 4], [(0, "a", 1), (1, "b", 2), (2, "c", 4), (0, "a", 3), (3, "c", 4), (0, "b", 4),
                                      (4, "t", 5)]), 5)),
                ([("b", "b"), ("b", "c")], "b",
                 (Program(5, [0], [(0, "b", 1), (1, "b", 3), (0, "b", 2), (2, "c", 3), (3, "b", 4)]), 4))]:
            told = stays(self, [words], lambda: losing_program(words, statement))
            self.assertEqual(told, wanted)
            self.assertEqual((type(told), type(told[1])), (tuple, int))

    def test_drawn_words(self):
        dice = Dice(603)
        for _ in range(200):
            words = sorted({tuple(dice.pick("abc") for _ in range(dice.below(5))) for _ in range(1 + dice.below(5))})
            program, place = losing_program(words, "t")
            between = sum(max(len(word) - 1, 0) for word in words)
            self.assertEqual((program.places, place), (between + 3, between + 2))
            self.assertEqual(program.begins(), [0] + [between + 1] * (() in words))
            wanted, free = [(between + 1, "t", between + 2)], 1
            for word in words:
                at = 0
                for index, name in enumerate(word):
                    to = between + 1 if index == len(word) - 1 else free
                    wanted.append((at, name, to))
                    at, free = to, free + (to == free)
            self.assertEqual(program.edges(), sorted(wanted))

    def test_the_facts_are_the_joins(self):
        for _, one in losing_trials(604, 100):
            words = sorted(set(path_words(one).values()))[:3]
            name = one.statements()[0]
            program, place = losing_program(words, name)
            row = made_tuple(one, name, [one.do(word) for word in words])
            self.assertEqual(facts_of(one, program)[place - 1], row[0])
            self.assertEqual(facts_of(one, program)[place], one.do((name,), value=row[0]))
            self.assertEqual(path_fact(one, program, place), row[1])

    def test_long_words(self):
        words = [("a",) * 40 + (name,) * many for many in (0, 3) for name in "bc"][1:]
        program, place = losing_program(sorted(words), "t")
        self.assertEqual((program.places, place), (39 + 42 + 42 + 3, 125))


class TablesTest(unittest.TestCase):
    def check(self, one, many, thing):
        told = stays(self, [one, thing], lambda: are_tables(one, thing))
        self.assertIs(told, slow_are_tables(one, thing))
        fewest = stays(self, [one, thing], lambda: is_fewest(one, many, thing))
        self.assertIs(fewest, slow_is_fewest(one, many, thing))
        return told, fewest

    def test_tables_and_spoilt_tables(self):
        closed = fewest = wrong = 0
        for dice, one in losing_trials(605, 300):
            tables = loss_of(one)[-1]
            tables = [(name, dice.shuffled(rows)) for name, rows in tables]
            for many in (0, 1, 2, 3, 2 ** 80):
                self.check(one, many, tables)
            for _ in range(8):
                told = self.check(one, dice.below(4), spoilt(dice, tables))
                closed, fewest, wrong = closed + told[0], fewest + told[1], wrong + (told == (False, False))
        self.assertGreater(min(closed, fewest), 20)
        self.assertGreater(wrong, 500)

    def test_rows_out_and_in(self):
        closed = fewest = 0
        for dice, one in losing_trials(606, 200):
            every = [(name, list(enumerate(one.map_of(name)))) for name in one.statements()]
            for _ in range(8):
                tables = [(name, [row for row in rows if dice.below(5)]) for name, rows in every]
                for many in (0, 1, 2):
                    told = self.check(one, many, tables)
                    closed, fewest = closed + told[0], fewest + told[1]
            told = self.check(one, len(one), every)
        self.assertGreater(min(closed, fewest), 50)

    def test_small_and_great_numbers(self):
        one = constants(3, 3)
        tables = loss_of(one)[3]
        self.assertEqual([is_fewest(one, many, tables) for many in (0, 1, 2, 3, 4, 64, 2 ** 80)],
                         [True, True, True, False, False, False, False])
        self.assertIs(are_tables(one, tables), False)
        empty = [(name, []) for name in one.statements()]
        self.assertEqual([is_fewest(one, many, empty) for many in (0, 1, 2 ** 80)], [True, False, False])
        self.assertIs(are_tables(one, empty), False)
        kept = keeping_analysis(Dice(607), NAMES)
        tables = loss_of(kept)[1]
        self.assertEqual([is_fewest(kept, many, tables) for many in (0, 1, 2, 64, 10 ** 40)], [True] * 5)
        long = Analysis(chain_joins(64), {"s": [min(u + 1, 63) for u in range(64)]})
        for many in (1, 5, 10 ** 40):
            self.assertIs(is_fewest(long, many, loss_of(long)[1]), True)
            self.assertIs(is_fewest(long, many, [("s", loss_of(long)[1][0][1][:-1])]), False)

    def test_small_spoils(self):
        one = Analysis(chain_joins(2), {"a": [0, 1], "b": [1, 1]})
        rows = [(0, 0), (1, 1)]
        good = [("a", rows), ("b", [(0, 1), (1, 1)])]
        self.assertEqual(self.check(one, 1, good), (True, True))
        for thing in ([good[1], good[0]], good[:1], good[1:], good + [good[1]], good + [("c", rows)], tuple(good),
                      dict(good), [list(good[0]), good[1]], [("a", rows, rows), good[1]], [("a",), good[1]], [(), good[1]],
                      [("a", tuple(rows)), good[1]], [(b"a", rows), good[1]], [("ab", rows), good[1]],
                      [("a", rows + rows[:1]), good[1]], [("a", rows + [(0, 1)]), good[1]], [None, good[1]],
                      [("a", [(False, 0), (1, 1)]), good[1]], [("a", [(0, 0), (1, True)]), good[1]],
                      [("a", [(0, 0), [1, 1]]), good[1]], [("a", rows + [(2, 2)]), good[1]],
                      [("a", rows + [(-1, 1)]), good[1]], [("a", rows + [(1, -1)]), good[1]],
                      [("a", rows + [(2 ** 80, 1)]), good[1]], [("a", rows + [(1, 1, 1)]), good[1]],
                      [("a", rows + [None]), good[1]], [("a", [(0, 0), ("1", 1)]), good[1]], [("a", [(0, 0)]), good[1]],
                      [("a", [(1, 1)]), good[1]], [(["a"], rows), good[1]], [(None, rows), good[1]]):
            self.assertEqual(self.check(one, 1, thing), (False, False))

    def test_other_values(self):
        one = Analysis(chain_joins(2), {"a": [0, 1]})
        for analysis in (one, known_example()):
            for thing in odd_values():
                self.assertEqual(self.check(analysis, 0, thing), (False, False))
                self.assertEqual(self.check(analysis, 0, [("a", [(0, 0), thing])]), (False, False))
        self.assertEqual(self.check(Analysis(chain_joins(2), {}), 0, []), (True, True))
        self.assertEqual(self.check(Analysis(chain_joins(2), {}), 0, ()), (False, False))


class IsLossTest(unittest.TestCase):
    def check(self, one, thing):
        told = stays(self, [one, thing], lambda: is_loss(one, thing))
        self.assertIs(told, slow_is_loss(one, thing))
        return told

    def test_losses_and_spoilt_losses(self):
        right = wrong = 0
        for dice, one in losing_trials(608, 300):
            told = loss_of(one)
            thing = (dice.shuffled(told[1]), told[2]) if told[0] == "loses" else ([(), ("a",)], "b")
            self.assertIs(self.check(one, thing), told[0] == "loses")
            for _ in range(8):
                loses = self.check(one, spoilt(dice, thing))
                right, wrong = right + loses, wrong + (not loses)
        self.assertGreater(min(right, wrong), 100)

    def test_all_short_words(self):
        for one in (known_example(), constants(3, 3), Analysis(chain_joins(2), {"a": [1, 1], "b": [0, 1], "t": [0, 0]})):
            every = [word for length in range(3) for word in product(one.statements(), repeat=length)][:12]
            for size in range(4):
                for words in combinations(every, size):
                    for name in one.statements():
                        self.check(one, (list(words), name))

    def test_small_spoils(self):
        one = known_example()
        good = [("b",), ("a",)]
        self.assertIs(self.check(one, (good, "t")), True)
        self.assertIs(self.check(one, (good + [()], "t")), True)
        self.assertIs(self.check(one, (good + [("a", "a"), ("t",) * 40], "t")), True)
        for thing in ([good, "t"], (good, "t", 0), (good,), (), (tuple(good), "t"), ([], "t"), (good, "a"), (good, "x"),
                      (good, None), (good, ("t",)), (good, b"t"), (good, "T"), (good[:1], "t"), (good + good[:1], "t"),
                      (good + [("x",)], "t"), (good + ["a"], "t"), (good + [["a"]], "t"), (good + [None], "t"),
                      (good + [(0,)], "t"), (good + [(("a",),)], "t"), (good + [(b"a",)], "t"), (good + [("A",)], "t"),
                      ("t", good), (dict.fromkeys(good), "t"), (good, ["t"]), (good, {"t": 1}), (good, 0), (good, True)):
            self.assertIs(self.check(one, thing), False)

    def test_other_values(self):
        one = known_example()
        for thing in odd_values():
            self.assertIs(self.check(one, thing), False)
            self.assertIs(self.check(one, (thing, "t")), False)
            self.assertIs(self.check(one, ([("a",), ("b",)], thing)), False)
            empty = type(thing) is tuple and thing == ()
            self.assertIs(self.check(one, ([("a",), ("b",), thing], "t")), empty)

    def test_long_words(self):
        one = known_example()
        self.assertIs(self.check(one, ([("t",) * 5000 + ("a",), ("a",) * 5000 + ("b",)], "t")), True)
        flat = Analysis(Joins([[u if u == v else 2 for v in range(3)] for u in range(3)]), {"a": [1, 0, 2]})
        self.assertIs(self.check(flat, ([("a",) * 5000, ("a",) * 4999], "a")), False)


if __name__ == "__main__":
    unittest.main()
