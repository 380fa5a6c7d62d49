"""[30] and [31]: Analysis; of [2] what an analysis and a word do, and when joins are kept."""

import unittest
from itertools import product

from factflows.analyses import Analysis
from factflows.errors import NoRise, NoStatement, TooMany, Unlike, Wrong
from factflows.joins import Joins, chain_joins, first_fall, union_joins
from factflows.programs import Program
from tests.helper import (Dice, asked_often, fork, keeping_analysis, no_list_twice, odd_values, parity, some_analysis,
                          some_rising, some_rows, spoil, stays)
from tests.test_maps import slow_first_fall, slow_first_loss


def some():
    return Analysis(fork(), {"b": [2, 1, 2], "a": [1, 1, 2]})


def samples(many=60):
    dice = Dice(30)
    names = [[], ["a"], ["a", "b"], ["c", "a", "b"], ["z", "y", "x", "w", "v", "u"]]
    found = [some_analysis(dice, dice.pick(names)) for _ in range(many)]
    return found + [keeping_analysis(dice, dice.pick(names)) for _ in range(many // 2)] + [some(), parity()]


def slow_do(analysis, word, value):
    for name in word:
        value = analysis.map_of(name)[value]
    return value


def words_of(analysis, longest):
    for length in range(longest + 1):
        yield from product(analysis.statements(), repeat=length)


ASKS = [
    lambda one: one.statements(), lambda one: one.map_of("a"), lambda one: one.map_of("b"), lambda one: one.do(("a",)),
    lambda one: one.do(("b", "a"), value=1), lambda one: one.do(()), lambda one: one.coming(),
    lambda one: one.unkept(), lambda one: one.word_values(), lambda one: one.restricted()[1],
    lambda one: repr(one.restricted()[0]), lambda one: repr(one.with_map("c", [0, 0, 2])),
    lambda one: repr(one.with_map("a", [2, 2, 2])), lambda one: repr(one.without(["a"])),
    lambda one: repr(one.renamed({"a": "b", "b": "a"})), lambda one: repr(one.moved([2, 0, 1])),
    lambda one: repr(one * one), lambda one: len(one), lambda one: repr(one), lambda one: one.begin,
    lambda one: one.joins.rows(), lambda one: one == some(), lambda one: one == parity(),
]


class ExamplesTest(unittest.TestCase):
    def test_first(self):
        one = some()
        told = [one.do(("a", "b")), one.do((), value=2), one.coming(), one.unkept(), one.word_values()]
        self.assertEqual(told, [1, 2, [0, 1, 2], ("a", 0, 1), [(0, ()), (1, ("a",)), (2, ("b",))]])

    def test_second(self):
        told = Analysis(fork(), {"a": [1, 1, 2]}, begin=1).restricted()
        self.assertEqual(told, (Analysis(Joins([[0]]), {"a": [0]}, begin=0), [1]))
        self.assertEqual(repr(told), "(Analysis(Joins([[0]]), {'a': [0]}, begin=0), [1])")


class WrongTest(unittest.TestCase):
    def wrong(self, place, joins, maps, **more):
        with self.assertRaises(Wrong) as caught:
            stays(self, [joins, maps, more], lambda: Analysis(joins, maps, **more))
        self.assertEqual(caught.exception.place, place)
        self.assertIs(type(caught.exception.place), int)

    def bad_joins(self):
        return [thing for thing in odd_values() if not isinstance(thing, Joins)] + [[[0]], fork().rows(), parity()]

    def bad_maps(self):
        """What is no dict of maps over three values."""
        good = [0, 1, 2]
        found = [thing for thing in odd_values() if thing != {}]
        found += [[("a", good)], ["a"], [], good, {"a"}, (("a", good),)]
        found += [{name: good} for name in ("", "A", "toolongname", "a1", " a", b"a", 1, True, None, ("a",), 0)]
        found += [{"a": good, name: good} for name in ("", "a b", 7, None, ("b",))]
        found += [{"a": values} for values in
                  (None, True, 0, "012", (0, 1, 2), {0: 0, 1: 1, 2: 2}, {0, 1, 2}, range(3), [], [0], [0, 1],
                   [0, 1, 2, 2], [0, 1, 3], [0, 1, -1], [0, 1, 2 ** 80], [False, True, 2], [0, True, 2], [0, 1, None],
                   [0, 1, "2"], [0, 1, [2]], [0, 1, (2,)], [[0, 1, 2]], list(range(5000)))]
        found += [{"a": good, "b": [0, 1]}, {"b": [True, 1, 2], "a": good}, {letter: good for letter in "abcdefg"}]
        return found

    def bad_begins(self):
        return [thing for thing in odd_values()] + [3, 4, -1, -3, [0], (0,), "0", True, False, None]

    def test_each_argument(self):
        for joins in self.bad_joins():
            self.wrong(0, joins, {})
            self.wrong(0, joins, {}, begin=0)
        for maps in self.bad_maps():
            self.wrong(1, fork(), maps)
        for begin in self.bad_begins():
            self.wrong(2, fork(), {"a": [0, 1, 2]}, begin=begin)

    def test_two_and_three_at_a_time(self):
        few_joins, few_begins = [None, [[0]], True], [3, -1, True, None, "0"]
        for maps in self.bad_maps():
            for joins in few_joins:
                self.wrong(0, joins, maps)
                self.wrong(0, joins, maps, begin=True)
            for begin in few_begins:
                self.wrong(1, fork(), maps, begin=begin)
        for joins, begin in product(self.bad_joins(), few_begins):
            self.wrong(0, joins, {}, begin=begin)

    def test_wrong_stands_ahead_of_falls(self):
        falls = {"a": [1, 0, 0]}
        self.wrong(2, fork(), falls, begin=3)
        self.wrong(2, fork(), falls, begin=False)
        self.wrong(1, fork(), {"a": [1, 0, 0], "b": [0]})
        self.wrong(1, fork(), {**{letter: [1, 0, 0] for letter in "abcdefg"}})
        self.wrong(0, None, falls)

    def test_the_numbers_hang_on_the_joins(self):
        one = chain_joins(1)
        self.assertEqual(Analysis(one, {"a": [0]}, begin=0).do(("a",)), 0)
        self.wrong(1, one, {"a": [1]})
        self.wrong(1, one, {"a": [0, 0]})
        self.wrong(2, one, {"a": [0]}, begin=1)
        many = chain_joins(64)
        self.assertEqual(Analysis(many, {"a": list(range(64))}, begin=63).do(("a",)), 63)
        self.wrong(2, many, {"a": list(range(64))}, begin=64)
        self.wrong(1, many, {"a": list(range(1, 65))})

    def test_from_no_to_six_statements(self):
        for many in range(7):
            names = ["a", "bb", "ccc", "dddd", "eeeee", "ffffffff"][:many]
            self.assertEqual(Analysis(fork(), {name: [0, 1, 2] for name in names}).statements(), names)

    def test_begin_is_passed_by_keyword(self):
        with self.assertRaises(TypeError):
            Analysis(fork(), {}, 0)


class NoRiseTest(unittest.TestCase):
    def test_the_least_name_and_the_first_fall(self):
        dice = Dice(31)
        for _ in range(400):
            rows = some_rows(dice)
            names = dice.shuffled(["a", "b", "c", "ab"])
            maps = {name: some_rising(dice, rows) for name in names}
            for _ in range(dice.below(4)):
                maps[dice.pick(names)] = [dice.below(len(rows)) for _ in rows]
            falls = [(name, *slow_first_fall(rows, maps[name])) for name in sorted(maps)
                     if slow_first_fall(rows, maps[name]) is not None]
            if falls:
                with self.assertRaises(NoRise) as caught:
                    stays(self, [maps], lambda: Analysis(Joins(rows), maps))
                error = caught.exception
                self.assertEqual((error.name, error.low, error.high), falls[0])
            else:
                self.assertEqual(Analysis(Joins(rows), maps).statements(), sorted(maps))


class TellsTest(unittest.TestCase):
    def test_what_it_was_made_of(self):
        dice = Dice(32)
        for _ in range(60):
            rows = some_rows(dice)
            joins, begin = Joins(rows), dice.below(len(rows))
            maps = {name: some_rising(dice, rows) for name in dice.shuffled(["b", "a", "ca"])}
            one = Analysis(joins, maps, begin=begin)
            self.assertEqual((one.joins, one.begin, len(one)), (joins, begin, len(rows)))
            self.assertEqual(one.statements(), ["a", "b", "ca"])
            for name in maps:
                self.assertEqual(one.map_of(name), maps[name])
        self.assertEqual(Analysis(fork(), {}).begin, 0)
        self.assertEqual(Analysis(fork(), {}, begin=2).begin, 2)

    def test_joins_and_begin_are_properties(self):
        one = some()
        for name in ("joins", "begin"):
            self.assertIsInstance(vars(Analysis)[name], property)
            with self.assertRaises(AttributeError):
                setattr(one, name, 1)
        self.assertIs(type(one.begin), int)
        self.assertIsInstance(one.joins, Joins)

    def test_shown(self):
        self.assertEqual(repr(some()), "Analysis(Joins([[0, 2, 2], [2, 1, 2], [2, 2, 2]]), "
                                       "{'a': [1, 1, 2], 'b': [2, 1, 2]}, begin=0)")
        self.assertEqual(repr(Analysis(Joins([[0, 1], [1, 1]]), {}, begin=1)),
                         "Analysis(Joins([[0, 1], [1, 1]]), {}, begin=1)")
        for one in samples():
            maps = {name: one.map_of(name) for name in one.statements()}
            self.assertEqual(repr(one), f"Analysis({one.joins!r}, {maps!r}, begin={one.begin})")
            self.assertEqual(eval(repr(one)), one)

    def test_words(self):
        dice = Dice(33)
        for one in samples():
            names = one.statements()
            for _ in range(8):
                word = tuple(dice.pick(names) for _ in range(dice.below(6) if names else 0))
                self.assertEqual(one.do(word), slow_do(one, word, one.begin))
                self.assertEqual(one.do(word, value=None), slow_do(one, word, one.begin))
                for value in range(len(one)):
                    self.assertEqual(one.do(word, value=value), slow_do(one, word, value))
        begun = Analysis(chain_joins(3), {"a": [1, 2, 2]}, begin=2)
        self.assertEqual([begun.do(()), begun.do((), value=0), begun.do(("a",), value=0)], [2, 0, 1])
        self.assertEqual(parity().do(("flip",) * 5000), 0)
        with self.assertRaises(TypeError):
            begun.do((), 0)

    def test_no_statement(self):
        one = some()
        for call, name in [
                (lambda: one.map_of("c"), "c"), (lambda: one.map_of(""), ""), (lambda: one.map_of("A"), "A"),
                (lambda: one.do(("c",)), "c"), (lambda: one.do(("a", "d", "c")), "d"),
                (lambda: one.do(("a", "d", "c"), value=1), "d"), (lambda: one.do(("d", "c", "d"), value=0), "d"),
                (lambda: one.without(["c"]), "c"), (lambda: one.without(["a", "z", "c"]), "z"),
                (lambda: one.without(["z", "c", "z"]), "z"), (lambda: Analysis(fork(), {}).map_of("a"), "a")]:
            with self.assertRaises(NoStatement) as caught:
                call()
            self.assertEqual(caught.exception.name, name)
            self.assertEqual(one, some())

    def test_unkept(self):
        for one in samples():
            losses = [(name, *slow_first_loss(one.joins.rows(), one.map_of(name))) for name in one.statements()
                      if slow_first_loss(one.joins.rows(), one.map_of(name)) is not None]
            self.assertEqual(one.unkept(), losses[0] if losses else None)
        dice = Dice(34)
        for _ in range(40):
            self.assertIsNone(keeping_analysis(dice, ["a", "b"]).unkept())
        self.assertIsNone(Analysis(fork(), {}).unkept())
        late = Analysis(fork(), {"a": [0, 1, 2], "b": [1, 1, 2], "c": [1, 1, 2]})
        self.assertEqual(late.unkept(), ("b", 0, 1))

    def test_coming(self):
        for one in samples():
            found = {one.begin}
            while True:
                more = found | {one.map_of(name)[u] for name in one.statements() for u in found}
                more |= {one.joins.join(u, v) for u in more for v in more}
                if more == found:
                    break
                found = more
            self.assertEqual(one.coming(), sorted(found))
            least = [u for u in range(len(one)) if u in found]
            self.assertEqual(one.coming(), least)
        self.assertEqual(Analysis(fork(), {}, begin=1).coming(), [1])
        self.assertEqual(Analysis(union_joins(6), {"a": [1] * 64, "b": [2] * 64, "c": [32] * 64}).coming(),
                         [0, 1, 2, 3, 32, 33, 34, 35])

    def test_word_values(self):
        dice = Dice(35)
        tried = [one for one in samples() if len(one.statements()) < 4]
        tried += [some_analysis(dice, ["b", "a"], 6) for _ in range(60)]
        for one in tried:
            wanted = {}
            for word in words_of(one, len(one) if len(one) < 7 else 6):
                wanted.setdefault(one.do(word), word)
            told = one.word_values()
            if len(one) < 7:
                self.assertEqual(told, sorted(wanted.items()))
            for value, word in told:
                self.assertEqual(one.do(word), value)
        self.assertEqual(Analysis(fork(), {}, begin=2).word_values(), [(2, ())])

    def test_the_least_of_the_shortest_words(self):
        # Both 2 and 3 come by two statements each; the words are told apart by their first, then their last ones.
        one = Analysis(Joins(fork_of(5)), {"a": [1, 3, 3, 3, 4, 5], "b": [2, 3, 4, 3, 4, 5]})
        self.assertEqual(one.word_values(), [(0, ()), (1, ("a",)), (2, ("b",)), (3, ("a", "a")), (4, ("b", "b"))])

    def test_a_word_for_each_of_64_values(self):
        one = Analysis(chain_joins(64), {"a": [min(u + 1, 63) for u in range(64)]})
        self.assertEqual(one.word_values(), [(u, ("a",) * u) for u in range(64)])


def fork_of(many):
    """Rows of so many values and one above all of them."""
    return [[u if u == v else many for v in range(many + 1)] for u in range(many + 1)]


class ChangedTest(unittest.TestCase):
    """What is made of analyses."""

    def test_restricted(self):
        for one in samples():
            other, values = one.restricted()
            self.assertEqual(values, one.coming())
            self.assertIs(type(one.restricted()), tuple)
            self.assertEqual(other.statements(), one.statements())
            self.assertEqual(values[other.begin], one.begin)
            self.assertEqual(len(other), len(values))
            for u, v in product(range(len(values)), repeat=2):
                self.assertEqual(values[other.joins.join(u, v)], one.joins.join(values[u], values[v]))
            for name, u in product(one.statements(), range(len(values))):
                self.assertEqual(values[other.map_of(name)[u]], one.map_of(name)[values[u]])

    def test_with_map(self):
        dice = Dice(36)
        for one in samples():
            rows = one.joins.rows()
            for name in ["n", "a", *one.statements()]:
                values = some_rising(dice, rows)
                maps = {known: one.map_of(known) for known in one.statements()}
                maps[name] = list(values)
                if len(maps) > 6:
                    with self.assertRaises(TooMany) as caught:
                        one.with_map(name, values)
                    self.assertEqual(caught.exception.limit, 6)
                else:
                    made = stays(self, [one, values], lambda: one.with_map(name, values))
                    self.assertEqual(made, Analysis(one.joins, maps, begin=one.begin))
                    spoil(values)
                    self.assertEqual(made, Analysis(one.joins, maps, begin=one.begin))

    def test_with_map_errors(self):
        full = Analysis(fork(), {letter: [0, 1, 2] for letter in "abcdef"}, begin=1)
        falls, rises = [1, 0, 0], [2, 2, 2]
        bad_names = [thing for thing in odd_values() if thing not in ("a", "begin")] + ["A", "", "ninechars", ("a",)]
        bad_values = odd_values() + [[0, 1], [0, 1, 2, 2], [0, 1, 3], [0, 1, -1], [0, True, 2], (0, 1, 2), [], "012"]
        for one in (full, some()):
            for name in bad_names:
                for values in (rises, falls, None, [0, 1], True):
                    with self.assertRaises(Wrong) as caught:
                        stays(self, [one, name, values], lambda: one.with_map(name, values))
                    self.assertEqual(caught.exception.place, 0)
            for values in bad_values:
                for name in ("a", "g"):
                    with self.assertRaises(Wrong) as caught:
                        stays(self, [one, name, values], lambda: one.with_map(name, values))
                    self.assertEqual(caught.exception.place, 1)
        for values in (falls, rises):
            with self.assertRaises(TooMany) as caught:
                full.with_map("g", values)
            self.assertEqual(caught.exception.limit, 6)
        for one, name in ((full, "c"), (some(), "c"), (some(), "a")):
            with self.assertRaises(NoRise) as caught:
                one.with_map(name, falls)
            self.assertEqual((caught.exception.name, caught.exception.low, caught.exception.high), (name, 0, 2))
        self.assertEqual(full.with_map("c", rises).map_of("c"), rises)
        self.assertEqual(full.with_map("c", rises).begin, 1)

    def test_without(self):
        dice = Dice(37)
        for one in samples():
            gone = [name for name in one.statements() if dice.below(2)]
            gone += gone[:1]
            made = stays(self, [one, gone], lambda: one.without(gone))
            kept = {name: one.map_of(name) for name in one.statements() if name not in gone}
            self.assertEqual(made, Analysis(one.joins, kept, begin=one.begin))
            self.assertEqual(one.without([]), one)
            self.assertEqual(one.without(one.statements()), Analysis(one.joins, {}, begin=one.begin))

    def test_renamed(self):
        one = Analysis(fork(), {"a": [0, 0, 2], "b": [1, 1, 2], "c": [2, 2, 2]}, begin=1)
        for changes, names in [({}, "abc"), ({"a": "b", "b": "a"}, "bac"), ({"a": "b", "b": "c", "c": "a"}, "bca"),
                               ({"z": "a"}, "abc"), ({"a": "z"}, "zbc"), ({"a": "a", "x": "y"}, "abc"),
                               ({"b": "a", "a": "d"}, "dac")]:
            made = stays(self, [one, changes], lambda: one.renamed(changes))
            maps = {name: one.map_of(old) for name, old in zip(names, "abc")}
            self.assertEqual(made, Analysis(fork(), maps, begin=1))
            self.assertEqual(made.statements(), sorted(names))

    def test_moved(self):
        dice = Dice(38)
        for one in samples():
            order = dice.shuffled(range(len(one)))
            made = stays(self, [one, order], lambda: one.moved(order))
            self.assertEqual(made.joins, one.joins.moved(order))
            self.assertEqual(made.begin, order[one.begin])
            self.assertEqual(made.statements(), one.statements())
            for name, u in product(one.statements(), range(len(one))):
                self.assertEqual(made.map_of(name)[order[u]], order[one.map_of(name)[u]])

    def test_product(self):
        dice = Dice(39)
        for _ in range(60):
            names = dice.pick([[], ["a"], ["b", "a"]])
            one, other = some_analysis(dice, names), some_analysis(dice, names)
            many = len(other)
            both = stays(self, [one, other], lambda: one * other)
            self.assertEqual(both.joins, one.joins * other.joins)
            self.assertEqual(both.begin, one.begin * many + other.begin)
            self.assertEqual(both.statements(), one.statements())
            for name, u, v in product(names, range(len(one)), range(many)):
                self.assertEqual(both.map_of(name)[u * many + v], one.map_of(name)[u] * many + other.map_of(name)[v])

    def test_product_errors(self):
        def chain(many, names):
            return Analysis(chain_joins(many), {name: [many - 1] * many for name in names})

        for one, other in [(chain(2, "a"), chain(2, "b")), (chain(2, "a"), chain(2, "ab")), (chain(2, ""), chain(2, "a")),
                           (chain(64, "a"), chain(64, "b")), (chain(9, "ab"), chain(8, "a"))]:
            for ours, theirs in ((one, other), (other, one)):
                with self.assertRaises(Unlike):
                    ours * theirs
        for many, more in ((9, 8), (64, 2), (2, 33), (64, 64)):
            with self.assertRaises(TooMany) as caught:
                chain(many, "a") * chain(more, "a")
            self.assertEqual(caught.exception.limit, 64)
        for many, more in ((8, 8), (64, 1), (1, 64), (2, 32)):
            both = chain(many, "ba") * chain(more, "ab")
            self.assertEqual((len(both), both.do(("a",)), both.coming()), (64, 63, [0, 63]))
        for thing in (2, None, fork(), "a", Program(1, [0], [])):
            with self.assertRaises(TypeError):
                some() * thing
            with self.assertRaises(TypeError):
                thing * some()


class KeepsTest(unittest.TestCase):
    def test_asked_often(self):
        asked_often(self, some, ASKS)
        asked_often(self, lambda: Analysis(fork(), {"b": [0, 1, 2], "a": [2, 2, 2]}, begin=2), ASKS)

    def test_what_is_handed_in_is_changed_behind_the_call(self):
        maps = {"b": [2, 1, 2], "a": [1, 1, 2]}
        one = Analysis(fork(), maps)
        spoil(maps["a"])
        maps["c"] = [0]
        del maps["b"]
        asked_often(self, lambda: one, ASKS)
        self.assertEqual(one, some())

    def test_results_are_new(self):
        one = some()
        for ask in ASKS:
            no_list_twice(self, ask(one))
            if isinstance(ask(one), list):
                self.assertIsNot(ask(one), ask(one))
        self.assertIsNot(one.map_of("a"), one.map_of("a"))

    def test_the_order_of_the_names_means_nothing(self):
        one = Analysis(fork(), {"a": [1, 1, 2], "b": [2, 1, 2]})
        self.assertEqual(one, some())
        self.assertEqual(repr(one), repr(some()))
        for ask in ASKS:
            self.assertEqual(ask(one), ask(some()))

    def test_equal_if_joins_begin_statements_and_maps_are(self):
        one = some()
        self.assertIs(one == some(), True)
        self.assertIs(one != some(), False)
        unlike = [
            Analysis(fork(), {"b": [2, 1, 2], "a": [1, 1, 2]}, begin=1), Analysis(fork(), {"b": [2, 1, 2]}),
            Analysis(fork(), {"b": [2, 1, 2], "c": [1, 1, 2]}), Analysis(fork(), {"b": [2, 1, 2], "a": [0, 1, 2]}),
            Analysis(fork(), {"b": [2, 1, 2], "a": [1, 1, 2], "c": [1, 1, 2]}), parity(),
            Analysis(chain_joins(3), {"b": [2, 2, 2], "a": [1, 1, 2]}), Analysis(Joins([[0]]), {}),
        ]
        same_maps = {"a": [2, 2, 2], "b": [2, 2, 2]}
        self.assertNotEqual(Analysis(fork(), same_maps), Analysis(chain_joins(3), same_maps))
        for thing in [*unlike, *odd_values(), repr(one), one.joins, one.coming(), Program(1, [0], [])]:
            self.assertIs(one == thing, False)
            self.assertIs(thing == one, False)
            self.assertIs(one != thing, True)

    def test_equality_does_not_ask_the_other_class(self):
        class Same:
            def __eq__(self, other):
                return True

        self.assertIs(some() == Same(), False)

    def test_falls_are_told_as_first_fall_tells(self):
        with self.assertRaises(NoRise) as caught:
            Analysis(fork(), {"b": [1, 0, 0], "a": [0, 1, 0]})
        error = caught.exception
        self.assertEqual((error.name, (error.low, error.high)), ("a", first_fall(fork(), [0, 1, 0])))


if __name__ == "__main__":
    unittest.main()
