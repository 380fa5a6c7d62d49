"""[80] and [81]: mirrors of programs and of words."""

import unittest
from itertools import product

from factflows.analyses import Analysis
from factflows.errors import TooMany
from factflows.facts import facts_of
from factflows.follows import follow_of
from factflows.joins import Joins
from factflows.mirrors import mirror_of, word_mirror
from factflows.programs import Program, line_program
from factflows.words import has_word
from tests.helper import Dice, asked_again, raised, slow_reached, slow_sets, some_program, some_programs, stays
from tests.test_follows import OTHER

NAMES = ["b", "a", "ab"]


def slow_mirror(program, statements):
    """The mirror by closing sets under what it says of them."""
    def moved(places, name):
        return frozenset(n for m, s, n in program.edges() if m in places and s == name)
    sets = slow_sets(frozenset(program.begins()), statements, moved, lambda some, more: some & more)
    return slow_analysis(sets, tuple(program.begins()), statements, moved, lambda some, more: some & more)


def slow_word_mirror(word, statements):
    def moved(spots, name):
        return frozenset(at + 1 for at in spots if word[at:at + 1] == (name,))
    sets = slow_sets(frozenset([0]), statements, moved, lambda some, more: some | more)
    return slow_analysis(sets, (0,), statements, moved, lambda some, more: some | more)


def slow_analysis(sets, first, statements, moved, joined):
    def at(some):
        return sets.index(tuple(sorted(some)))
    rows = [[at(joined(set(some), set(more))) for more in sets] for some in sets]
    maps = {name: [at(moved(some, name)) for some in sets] for name in statements}
    return Analysis(Joins(rows), maps, begin=at(first)), sets


def told_spots(word, program, place):
    """How far along a word the words of paths to a place lead, from its begin on."""
    return tuple(at for at in range(len(word) + 1) if has_word(program, place, word[:at]))


def many_sets(places):
    """A program with 2 ** places sets: statements turn the places round, and leave the first one out."""
    edges = [(at, "a", (at + 1) % places) for at in range(places)] + [(at, "b", at) for at in range(1, places)]
    return Program(places, list(range(places)), edges)


class ExamplesTest(unittest.TestCase):
    def test_as_written(self):
        one = Program(3, [0], [(0, 'b', 1), (0, 'c', 1), (1, 'a', 2)])
        analysis, sets = mirror_of(OTHER, ['a', 'b', 'c'])
        self.assertEqual([sets, analysis.begin, facts_of(analysis, OTHER), facts_of(analysis, one)],
                         [[(), (0,), (1,), (2,), (3,)], 1, [1, 2, 3, 4], [1, 0, 0]])
        self.assertEqual(word_mirror(('a',), ['a'])[1], [(), (0,), (0, 1), (1,)])


class MirrorOfTest(unittest.TestCase):
    def test_against_a_slow_reckoning(self):
        dice, sizes, empty, full = Dice(900), [], 0, 0
        for _ in range(300):
            program = some_program(dice, NAMES, 5, 12)
            statements = dice.shuffled(["b", "a", "ab", "c"])[:dice.below(5)]
            wanted = slow_mirror(program, statements)
            if len(wanted[1]) > 64:
                continue
            told = stays(self, [program, statements], lambda: mirror_of(program, statements))
            self.assertIs(type(told), tuple)
            self.assertEqual(told, wanted)
            self.assertEqual(told[0].statements(), sorted(statements))
            self.assertTrue(set().union(*told[1]) <= set(slow_reached(program)))
            sizes.append(len(told[1]))
            empty, full = empty + (() in told[1]), full + (() not in told[1])
        self.assertGreater(sum(size > 4 for size in sizes), 60)
        self.assertGreater(min(empty, full), 20)

    def test_programs_of_twelve_places(self):
        dice, tried = Dice(904), 0
        while tried < 40:
            edges = [(dice.pick([0, 8, dice.below(12)]), dice.pick(NAMES), dice.pick([8, 0, dice.below(12)])) for _ in range(16)]
            program = Program(12, [8, 0], edges)
            try:
                told = mirror_of(program, NAMES)
            except TooMany:
                continue
            self.assertEqual(told, slow_mirror(program, NAMES))
            tried += 1

    def test_the_facts_are_the_places_that_follow(self):
        greater = 0
        for _, one, other in some_programs(901, 250):
            statements = sorted(set(one.statements() + other.statements()))
            try:
                analysis, sets = mirror_of(other, statements)
            except TooMany:
                continue
            facts, pairs = facts_of(analysis, one), follow_of(one, other)
            for place in range(one.places):
                told = None if facts[place] is None else sets[facts[place]]
                followers = tuple(n for m, n in pairs if m == place)
                self.assertEqual(told, followers if place in one.reached() else None)
                greater += len(followers) > 1
        self.assertGreater(greater, 100)

    def test_most(self):
        dice = Dice(902)
        for _ in range(100):
            program = some_program(dice, NAMES, 4, 10)
            wanted = slow_mirror(program, NAMES)
            many = len(wanted[1])
            self.assertEqual(mirror_of(program, NAMES, most=many), wanted)
            if many > 1:
                self.assertEqual(raised(self, TooMany, lambda: mirror_of(program, NAMES, most=many - 1)).limit, many - 1)
                self.assertEqual(raised(self, TooMany, lambda: mirror_of(program, NAMES, most=1)).limit, 1)

    def test_many_sets(self):
        six = many_sets(6)
        analysis, sets = mirror_of(six, ["a", "b"])
        self.assertEqual((len(analysis), len(sets)), (64, 64))
        self.assertEqual(raised(self, TooMany, lambda: mirror_of(six, ["b", "a"], most=63)).limit, 63)
        for places in (7, 12):
            self.assertEqual(raised(self, TooMany, lambda: mirror_of(many_sets(places), ["b", "a"])).limit, 64)
            self.assertEqual(mirror_of(many_sets(places), ["a"])[1], [tuple(range(places))])

    def test_edges(self):
        one = Program(3, [1], [(1, "a", 1), (0, "a", 2)])
        self.assertEqual(mirror_of(one, []), (Analysis(Joins([[0]]), {}), [(1,)]))
        self.assertEqual(mirror_of(one, ["a"]), (Analysis(Joins([[0]]), {"a": [0]}), [(1,)]))
        empty = Analysis(Joins([[0, 0], [0, 1]]), {"a": [0, 1], "b": [0, 0]}, begin=1)
        self.assertEqual(mirror_of(one, ["b", "a"]), (empty, [(), (1,)]))
        six = ["f", "e", "d", "c", "b", "a"]
        self.assertEqual(mirror_of(one, six)[0].statements(), sorted(six))
        # A join of two sets may be one that no word makes.
        two = Program(4, [0], [(0, "a", 1), (0, "a", 2), (0, "b", 2), (0, "b", 3)])
        self.assertEqual(mirror_of(two, ["a", "b"])[1], [(), (0,), (1, 2), (2,), (2, 3)])

    def test_statements_in_any_order(self):
        for names in (["a", "b", "c"], ["c", "b", "a"], ["b", "c", "a"]):
            self.assertEqual(mirror_of(OTHER, names), mirror_of(OTHER, ["a", "b", "c"]))

    def test_results_are_new(self):
        asked_again(self, lambda: list(mirror_of(OTHER, ["a", "b"]))[1])
        asked_again(self, lambda: mirror_of(OTHER, ["a", "b"])[0].joins.rows())


class WordMirrorTest(unittest.TestCase):
    def test_against_a_slow_reckoning(self):
        for length in range(5):
            for word in product("ab", repeat=length):
                for more in (["a", "b"], ["b", "a"], ["c", "b", "a"], sorted(set(word))):
                    wanted = slow_word_mirror(word, more)
                    told = stays(self, [word, more], lambda: word_mirror(word, more))
                    self.assertEqual(told, wanted)
                    self.assertIsNone(told[0].unkept())
                    if word:
                        self.assertEqual(len(told[1]), 2 ** (length + 1))

    def test_the_facts_tell_words(self):
        dice, had = Dice(903), 0
        for _ in range(200):
            program = some_program(dice, ["a", "b"], 5, 12)
            word = tuple(dice.pick(["a", "b"]) for _ in range(dice.below(6)))
            analysis, sets = word_mirror(word, ["a", "b", "c"])
            for place, fact in enumerate(facts_of(analysis, program)):
                told = fact is not None and len(word) in sets[fact]
                self.assertIs(told, has_word(program, place, word))
                had += told
        self.assertGreater(had, 100)

    def test_most(self):
        for length in range(1, 6):
            many = 2 ** (length + 1)
            for word in (("a",) * length, ("a", "b") * length):
                word = word[:length]
                self.assertEqual(len(word_mirror(word, ["b", "a"], most=many)[1]), many)
                self.assertEqual(raised(self, TooMany, lambda: word_mirror(word, ["a", "b"], most=many - 1)).limit, many - 1)
        self.assertEqual(len(word_mirror(("a", "b", "a", "c", "b"), ["a", "b", "c"])[1]), 64)
        for some in word_mirror(("a", "b", "a", "c", "b"), ["a", "b", "c"])[1]:
            self.assertEqual(list(some), sorted(set(some)))
        for length in (6, 7, 40, 300):
            word = (("a", "b", "c") * length)[:length]
            self.assertEqual(raised(self, TooMany, lambda: word_mirror(word, ["a", "b", "c"])).limit, 64)
            self.assertEqual(raised(self, TooMany, lambda: word_mirror(word, ["a", "b", "c"], most=3)).limit, 3)

    def test_the_empty_word(self):
        self.assertEqual(word_mirror((), []), (Analysis(Joins([[0]]), {}), [(0,)]))
        self.assertEqual(word_mirror((), [], most=1)[1], [(0,)])
        two = Analysis(Joins([[0, 1], [1, 1]]), {"a": [0, 0]}, begin=1)
        self.assertEqual(word_mirror((), ["a"]), (two, [(), (0,)]))
        self.assertEqual(raised(self, TooMany, lambda: word_mirror((), ["a"], most=1)).limit, 1)

    def test_of_a_line(self):
        word = ("a", "b", "a", "a")
        analysis, sets = word_mirror(word, ["a", "b"])
        line = line_program(word)
        self.assertEqual([sets[fact] for fact in facts_of(analysis, line)], [(0,), (1,), (2,), (3,), (4,)])
        loop = line.with_edges([(2, "a", 0)])
        self.assertEqual([sets[fact] for fact in facts_of(analysis, loop)],
                         [told_spots(word, loop, place) for place in range(5)])

    def test_results_are_new(self):
        asked_again(self, lambda: list(word_mirror(("a", "a"), ["a"]))[1])


if __name__ == "__main__":
    unittest.main()
