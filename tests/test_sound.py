"""[92]: whether an analysis is sound for a machine, or just; the example of [93] with the analysis written out; [12]."""

import unittest
from itertools import product

from factflows.analyses import Analysis
from factflows.errors import Unlike
from factflows.facts import facts_of
from factflows.joins import Joins, chain_joins, union_joins
from factflows.machines import Machine, collecting, states_at
from factflows.pairs import holds_for
from factflows.programs import line_program
from factflows.sound import are_sound_pairs, is_unsound, just_for, sound_for
from tests.helper import (Dice, asked_again, climbing_analysis, has_loop, longest_path, odd_values, raised, slow_layers,
                          slow_runs, slow_sound_pairs, some_machine, some_program, some_soundness, spoilt, stays, toggle)

MEANINGS = [(), (0,), (1,), (0, 1)]
PAIRS = [(1, 0), (2, 1), (3, 0), (3, 1)]


def good():
    return Analysis(union_joins(2), {"inc": [0, 2, 3, 3], "set": [0, 1, 1, 1]}, begin=1)


def bad():
    return Analysis(union_joins(2), {"inc": [0, 2, 2, 2], "set": [0, 1, 1, 1]}, begin=1)


def slow_unsound(analysis, meanings, machine, longest):
    """The first word, shorter ones ahead, and the first run along it that ends where the path value does not mean."""
    for length in range(longest + 1):
        for word in product(machine.statements(), repeat=length):
            for run in slow_runs(machine, word):
                if run[-1] not in meanings[analysis.do(word)]:
                    return word, run
    return None


def slow_are_pairs(analysis, meanings, machine, thing):
    if type(thing) is not list:
        return False
    for pair in thing:
        if type(pair) is not tuple or len(pair) != 2 or any(type(part) is not int for part in pair):
            return False
        if not 0 <= pair[0] < len(analysis) or pair[1] not in meanings[pair[0]]:
            return False
    if len(set(thing)) != len(thing) or any((analysis.begin, first) not in thing for first in machine.firsts()):
        return False
    return all((analysis.map_of(s)[v], b) in thing for v, a in thing for s in machine.statements()
               for at, b in machine.moves(s) if at == a)


def slow_is_unsound(analysis, meanings, machine, thing):
    if type(thing) is not tuple or len(thing) != 2 or type(thing[0]) is not tuple or type(thing[1]) is not list:
        return False
    word, run = thing
    if any(type(name) is not str or name not in machine.statements() for name in word) or len(run) != len(word) + 1:
        return False
    if any(type(state) is not int for state in run) or run[0] not in machine.firsts():
        return False
    if any((a, b) not in machine.moves(s) for s, a, b in zip(word, run, run[1:])):
        return False
    return run[-1] not in meanings[analysis.do(word)]


class ExamplesTest(unittest.TestCase):
    def test_as_written(self):
        self.assertEqual([sound_for(good(), MEANINGS, toggle()), just_for(good(), MEANINGS, toggle())],
                         [("sound", PAIRS), ("just", [(1, (0,)), (2, (1,)), (3, (0, 1))])])
        self.assertEqual(sound_for(bad(), MEANINGS, toggle()), ("unsound", ("inc", "inc"), [0, 1, 0]))


class SoundForTest(unittest.TestCase):
    def test_against_a_slow_search(self):
        sound, lengths = 0, []
        for _, analysis, meanings, machine in some_soundness(930, 600, most_states=4):
            told = stays(self, [analysis, meanings, machine], lambda: sound_for(analysis, meanings, machine))
            pairs = slow_sound_pairs(analysis, machine)
            if all(state in meanings[value] for value, state in pairs):
                self.assertEqual(told, ("sound", pairs))
                sound += len(pairs) > 2
                continue
            self.assertEqual(told[0], "unsound")
            self.assertTrue(slow_is_unsound(analysis, meanings, machine, told[1:]))
            longest = min(len(told[1]), 5)
            slow = slow_unsound(analysis, meanings, machine, longest)
            self.assertEqual(slow, told[1:] if len(told[1]) <= 5 else None)
            lengths.append(len(told[1]))
        self.assertGreater(sound, 60)
        for length in range(3):
            self.assertGreater(lengths.count(length), 15)
        self.assertGreater(sum(length > 2 for length in lengths), 5)

    def test_the_facts_of_programs(self):
        """[12]"""
        counts = {True: 0, False: 0}
        for dice, analysis, meanings, machine in some_soundness(931, 300):
            told = sound_for(analysis, meanings, machine)
            if told[0] == "unsound":
                line = line_program(told[1])
                fact = facts_of(analysis, line)[-1]
                self.assertEqual(fact, analysis.do(told[1]))
                self.assertIn(told[2][-1], states_at(machine, line)[-1])
                self.assertNotIn(told[2][-1], meanings[fact])
                counts[False] += 1
                continue
            for _ in range(3):
                program = some_program(dice, ["a", "b"])
                for fact, states in zip(facts_of(analysis, program), states_at(machine, program)):
                    if fact is not None:
                        self.assertTrue(set(states) <= set(meanings[fact]))
                        counts[True] += 1
        self.assertGreater(min(counts.values()), 60)

    def test_least_words_and_runs(self):
        # The runs 0 1 3, 0 2 3, 1 2 3 and so on lead to 3, and all statements do the same: the least of all is told.
        step = [(0, 2), (0, 1), (1, 2), (2, 3), (1, 3)]
        machine = Machine(4, [1, 0], {"c": [(0, 1)], "b": step, "a": [(0, 1), (0, 2)]})
        analysis = Analysis(chain_joins(2), {"a": [0, 0], "b": [0, 0], "c": [0, 0]})
        for meant, word, run in [((0, 1, 2), ("b",), [1, 3]), ((0, 1, 3), ("a",), [0, 2]), ((0, 2, 3), (), [1]),
                                 ((1, 2, 3), (), [0]), ((2, 3), (), [0])]:
            told = sound_for(analysis, [meant, (0, 1, 2, 3)], machine)
            self.assertEqual(told, ("unsound", word, run))
        late = Machine(4, [0], {"c": [(0, 1)], "b": step, "a": [(0, 1), (0, 2)]})
        self.assertEqual(sound_for(analysis, [(0, 1, 2)] * 2, late), ("unsound", ("a", "b"), [0, 1, 3]))
        # Which state a run ends in does not matter ahead of what stands before.
        fork = Machine(4, [0], {"a": [(0, 2), (0, 1), (1, 3), (2, 0)]})
        one = Analysis(chain_joins(1), {"a": [0]})
        self.assertEqual(sound_for(one, [(0, 1, 2)], fork), ("unsound", ("a", "a"), [0, 1, 3]))

    def test_long_words(self):
        machine = Machine(6, [0], {"a": [(at, (at + 1) % 6) for at in range(6)], "b": [(0, 0)]})
        many = 50
        chain = Analysis(chain_joins(many), {"a": [min(u + 1, many - 1) for u in range(many)], "b": [0] + [many - 1] * (many - 1)})
        meanings = [tuple(range(6))] * many
        self.assertEqual(sound_for(chain, meanings, machine)[0], "sound")
        # Meanings must rise, so what is not meant at one value is not meant below it.
        low = [(0, 1, 2, 3, 4)] * 5 + [tuple(range(6))] * (many - 5)
        self.assertEqual(sound_for(chain, low, machine)[0], "sound")
        low = [(0, 1, 2, 3, 4)] * 6 + [tuple(range(6))] * (many - 6)
        self.assertEqual(sound_for(chain, low, machine), ("unsound", ("a",) * 5, [0, 1, 2, 3, 4, 5]))
        turn = Analysis(Joins([[0]]), {"a": [0], "b": [0]})
        self.assertEqual(sound_for(turn, [(0, 1, 2, 3, 4)], machine)[1], ("a",) * 5)

    def test_edges(self):
        one = Analysis(chain_joins(2), {}, begin=1)
        self.assertEqual(sound_for(one, [(), (0,)], Machine(1, [0], {})), ("sound", [(1, 0)]))
        self.assertEqual(sound_for(one, [(), ()], Machine(1, [0], {})), ("unsound", (), [0]))
        # A value that means nothing is sound where no run ends.
        two = Analysis(chain_joins(2), {"a": [0, 0]}, begin=1)
        self.assertEqual(sound_for(two, [(), (0,)], Machine(1, [0], {"a": []})), ("sound", [(1, 0)]))
        self.assertEqual(sound_for(two, [(), (0,)], Machine(1, [0], {"a": [(0, 0)]})), ("unsound", ("a",), [0, 0]))

    def test_results_are_new(self):
        asked_again(self, lambda: sound_for(good(), MEANINGS, toggle()))
        asked_again(self, lambda: sound_for(bad(), MEANINGS, toggle()))


class AreSoundPairsTest(unittest.TestCase):
    def check(self, analysis, meanings, machine, thing):
        told = stays(self, [analysis, meanings, machine, thing],
                     lambda: are_sound_pairs(analysis, meanings, machine, thing))
        self.assertIs(told, slow_are_pairs(analysis, meanings, machine, thing))
        return told

    def test_right_and_spoilt_ones(self):
        right = wrong = more = 0
        for dice, analysis, meanings, machine in some_soundness(932, 400):
            pairs = slow_sound_pairs(analysis, machine)
            sound = self.check(analysis, meanings, machine, dice.shuffled(pairs))
            self.assertIs(sound, sound_for(analysis, meanings, machine)[0] == "sound")
            meant = [(value, state) for value, some in enumerate(meanings) for state in some]
            self.check(analysis, meanings, machine, meant)
            for _ in range(4):
                told = self.check(analysis, meanings, machine, spoilt(dice, dice.shuffled(pairs)))
                right, wrong = right + told, wrong + (not told)
            start = (dice.below(len(analysis)), dice.below(machine.states))
            closed = self.closed(analysis, machine, set(pairs) | {start})
            more += self.check(analysis, meanings, machine, dice.shuffled(closed)) and len(closed) > len(pairs)
        self.assertGreater(wrong, 800)
        self.assertGreater(min(right, more), 20)

    def closed(self, analysis, machine, pairs):
        while True:
            more = pairs | {(analysis.map_of(s)[v], b) for v, a in pairs for s in machine.statements()
                            for at, b in machine.moves(s) if at == a}
            if more == pairs:
                return sorted(pairs)
            pairs = more

    def test_small_spoils(self):
        self.assertIs(self.check(good(), MEANINGS, toggle(), PAIRS), True)
        self.assertIs(self.check(good(), MEANINGS, toggle(), PAIRS[::-1]), True)
        for at in range(4):
            for thing in (PAIRS[:at] + PAIRS[at + 1:], PAIRS + [PAIRS[at]], [list(PAIRS[at])] + PAIRS[:at] + PAIRS[at + 1:]):
                self.assertIs(self.check(good(), MEANINGS, toggle(), thing), False)
        for pair in [(0, 0), (1, 1), (2, 0), (4, 0), (-1, 1), (3, 2), (3, -1), (3, True), (True, 0), (3, 0, 0), (3,), (),
                     None, (None, 0), (3, None), ((3, 0),), (2 ** 80, 0), (3, 2 ** 80), ("3", 0), (3, "0"), 3, "30"]:
            self.assertIs(self.check(good(), MEANINGS, toggle(), PAIRS + [pair]), False)
            self.assertIs(self.check(good(), MEANINGS, toggle(), [pair] + PAIRS), False)
        self.assertIs(self.check(good(), MEANINGS, toggle(), [(True, 0)] + PAIRS[1:]), False)
        self.assertIs(self.check(good(), MEANINGS, toggle(), [(1, False)] + PAIRS[1:]), False)

    def test_what_comes_of_further_pairs(self):
        one = Analysis(chain_joins(4), {"a": [0, 2, 3, 3]})
        machine = Machine(2, [0], {"a": [(0, 0), (1, 1)]})
        meanings = [(0,), (0,), (0, 1), (0, 1)]
        for more, wanted in [([], True), ([(3, 0)], True), ([(2, 1), (3, 1)], True), ([(2, 1)], False), ([(1, 1)], False),
                             ([(1, 0), (2, 0), (3, 0)], True), ([(1, 0), (2, 0)], False), ([(1, 0), (3, 0)], False)]:
            self.assertIs(self.check(one, meanings, machine, [(0, 0)] + more), wanted)
            self.assertIs(self.check(one, meanings, machine, more[::-1]), False)

    def test_other_values(self):
        for thing in odd_values():
            self.assertIs(self.check(good(), MEANINGS, toggle(), thing), False)
            self.assertIs(self.check(good(), MEANINGS, toggle(), PAIRS + [thing]), False)
            self.assertIs(self.check(good(), MEANINGS, toggle(), PAIRS + [(3, thing)]), False)
            self.assertIs(self.check(good(), MEANINGS, toggle(), PAIRS + [(thing, 0)]), False)
        for thing in (tuple(PAIRS), dict.fromkeys(PAIRS), set(PAIRS), {tuple(PAIRS): 1}):
            self.assertIs(self.check(good(), MEANINGS, toggle(), thing), False)


class IsUnsoundTest(unittest.TestCase):
    def check(self, analysis, meanings, machine, thing):
        told = stays(self, [analysis, meanings, machine, thing], lambda: is_unsound(analysis, meanings, machine, thing))
        self.assertIs(told, slow_is_unsound(analysis, meanings, machine, thing))
        return told

    def test_right_and_spoilt_ones(self):
        right = wrong = runs = 0
        for dice, analysis, meanings, machine in some_soundness(933, 400):
            told = sound_for(analysis, meanings, machine)
            for _ in range(3):
                word = tuple(dice.pick(machine.statements()) for _ in range(dice.below(4)))
                for run in slow_runs(machine, word)[:4]:
                    is_one = self.check(analysis, meanings, machine, (word, run))
                    self.assertFalse(is_one and told[0] == "sound")
                    runs += is_one
            if told[0] == "unsound":
                self.assertIs(self.check(analysis, meanings, machine, told[1:]), True)
                for _ in range(6):
                    is_one = self.check(analysis, meanings, machine, spoilt(dice, told[1:]))
                    right, wrong = right + is_one, wrong + (not is_one)
        self.assertGreater(min(wrong, runs), 200)
        self.assertGreater(right, 5)

    def test_small_spoils(self):
        word, run = ("inc", "inc"), [0, 1, 0]
        self.assertIs(self.check(bad(), MEANINGS, toggle(), (word, run)), True)
        self.assertIs(self.check(bad(), MEANINGS, toggle(), (("inc",) * 5000, [0] + [1] * 4999 + [0])), True)
        for thing in [(word, [0, 1, 1]), (word, tuple(run)), (list(word), run), [word, run], (word, run, 0), (word,), (),
                      (word, [0, 1]), (word, [0, 1, 0, 1]), (("inc",), run), (word + ("inc",), run), (word, [1, 1, 0]),
                      (word, [0, 0, 0]), (word, [False, 1, 0]), (word, [0, True, 0]), (word, [0, 1, False]),
                      (word, [0, 1, -2]), (word, [0, 1, 2]), (word, [0, 1, None]), (("inc", "dec"), run),
                      (("inc", 0), run), (("inc", ["inc"]), run), ("inc", run), (word, {0: 1}), (word, "010"),
                      ((), [0]), ((), []), ((), [1]), (run, word), (None, run), (word, None), (("inc", "INC"), run)]:
            self.assertIs(self.check(bad(), MEANINGS, toggle(), thing), False)
        self.assertIs(self.check(bad(), [()] * 4, toggle(), ((), [0])), True)
        self.assertIs(self.check(bad(), [()] * 4, toggle(), ((), [1])), False)

    def test_other_values(self):
        word, run = ("inc", "inc"), [0, 1, 0]
        for thing in odd_values():
            for made in (thing, (word, thing), (thing, run), ((thing, "inc"), run), (word, [0, 1, thing]), (word, run, thing)):
                self.assertIs(self.check(bad(), MEANINGS, toggle(), made), False)


class JustForTest(unittest.TestCase):
    def check(self, analysis, meanings, machine):
        """just_for against a slow reckoning of the layers; whether it is just."""
        told = stays(self, [analysis, meanings, machine], lambda: just_for(analysis, meanings, machine))
        collected, sets = collecting(machine)
        layers = [[(value, sets[at]) for value, at in layer] for layer in slow_layers(analysis, collected)]
        breaking = [(i, row) for i, layer in enumerate(layers) for row in layer if meanings[row[0]] != row[1]]
        if not breaking:
            self.assertEqual(told, ("just", sorted(row for layer in layers for row in layer)))
            return True
        (layer, row), (word, its, program, place) = breaking[0], told
        self.assertEqual((word, its), ("apart", row))
        self.assertFalse(has_loop(program))
        self.assertLessEqual(longest_path(program), layer)
        self.assertEqual((facts_of(analysis, program)[place], states_at(machine, program)[place]), (row[0], list(row[1])))
        return False

    def test_against_slow_layers(self):
        counts = {True: 0, False: 0}
        for _, analysis, meanings, machine in some_soundness(934, 300):
            counts[self.check(analysis, meanings, machine)] += 1
        self.assertGreater(min(counts.values()), 40)

    def test_late_layers(self):
        late = 0
        dice = Dice(935)
        for _ in range(100):
            machine = some_machine(dice, ["a", "b"], 4)
            counter = climbing_analysis(dice, ["a", "b"])
            collected, sets = collecting(machine)
            if len(collected) * len(counter) > 64:
                continue
            both = collected * counter
            meanings = [sets[value // len(counter)] for value in range(len(both))]
            self.assertIs(self.check(both, meanings, machine), True)
            # One value means more: so it is apart where a layer has this value.
            value = dice.below(len(both))
            more = [tuple(sorted(set(some) | {state for state in range(machine.states) if both.joins.is_below(value, v)}))
                    for v, some in enumerate(meanings)]
            self.check(both, more, machine)
            told = just_for(both, more, machine)
            late += told[0] == "apart" and longest_path(told[2]) > 1
        self.assertGreater(late, 10)

    def test_the_facts_of_programs(self):
        just = 0
        for dice, analysis, meanings, machine in some_soundness(936, 200):
            told = just_for(analysis, meanings, machine)
            if told[0] == "apart":
                continue
            for _ in range(3):
                program = some_program(dice, ["a", "b"])
                for fact, states in zip(facts_of(analysis, program), states_at(machine, program)):
                    if fact is not None:
                        self.assertEqual(list(meanings[fact]), states)
                        self.assertIn((fact, tuple(states)), told[1])
                        just += 1
            self.assertEqual(sound_for(analysis, meanings, machine)[0], "sound")
        self.assertGreater(just, 200)

    def test_more_than_600_pairs(self):
        # One statement counts, and each other one leads to one state: so each number comes with each set but the empty one.
        moves = {"b": [(at, at) for at in range(6)]}
        moves.update({name: [(at, there) for at in range(6)] for there, name in enumerate("cdefg", 1)})
        machine = Machine(6, [0], moves)
        maps = {name: list(range(12)) for name in moves}
        maps["b"] = [min(u + 1, 11) for u in range(12)]
        counter = Analysis(chain_joins(12), maps)
        every = tuple(range(6))
        self.assertEqual(just_for(counter, [every] * 12, machine)[:2], ("apart", (0, (0,))))
        self.assertEqual(just_for(counter, [(0,)] + [every] * 11, machine)[:2], ("apart", (0, (0, 1))))
        collected, sets = collecting(machine)
        self.assertEqual((len(sets), sum(len(layer) for layer in slow_layers(counter, collected))), (63, 756))
        _, row, program, place = just_for(counter, [(0,)] * 11 + [every], machine)
        self.assertEqual((row, facts_of(counter, program)[place], states_at(machine, program)[place]),
                         ((0, (0, 1)), 0, [0, 1]))

    def test_the_first_word_is_another_one(self):
        for _, analysis, meanings, machine in some_soundness(937, 60):
            collected, sets = collecting(machine)
            relation = [(v, at) for v in range(len(analysis)) for at in range(len(sets)) if meanings[v] == sets[at]]
            told, held = just_for(analysis, meanings, machine), holds_for(analysis, collected, relation, most=2000)
            if held[0] == "holds":
                self.assertEqual(told, ("just", [(v, sets[at]) for v, at in held[1]]))
            else:
                self.assertEqual((told[0], told[1]), ("apart", (held[1][0], sets[held[1][1]])))

    def test_sound_and_not_just(self):
        every = [(), (0,), (0, 1), (0, 1)]
        sloppy = Analysis(chain_joins(4), {"inc": [0, 2, 2, 3], "set": [0, 1, 1, 1]}, begin=1)
        self.assertEqual(sound_for(sloppy, every, toggle())[0], "sound")
        told = just_for(sloppy, every, toggle())
        self.assertEqual(told[:2], ("apart", (2, (1,))))
        self.assertEqual(facts_of(sloppy, told[2])[told[3]], 2)

    def test_edges(self):
        one = Analysis(chain_joins(2), {}, begin=1)
        self.assertEqual(just_for(one, [(), (0,)], Machine(1, [0], {})), ("just", [(1, (0,))]))
        told = just_for(one, [(), (0, 1)], Machine(2, [1], {}))
        self.assertEqual(told[:2], ("apart", (1, (1,))))
        self.assertEqual((told[2].places, told[3]), (1, 0))
        # Where no run ends the value is to mean nothing.
        two = Analysis(chain_joins(2), {"a": [0, 0]}, begin=1)
        machine = Machine(1, [0], {"a": []})
        self.assertEqual(just_for(two, [(), (0,)], machine), ("just", [(0, ()), (1, (0,))]))
        self.assertEqual(just_for(two, [(0,), (0,)], machine)[:2], ("apart", (0, ())))

    def test_results_are_new(self):
        asked_again(self, lambda: just_for(good(), MEANINGS, toggle()))
        asked_again(self, lambda: just_for(bad(), MEANINGS, toggle())[:2])


class UnlikeTest(unittest.TestCase):
    def test_statements_that_are_not_the_same(self):
        for analysis, machine in [(good().without(["inc"]), toggle()), (good(), Machine(2, [0], {"inc": []})),
                                  (good().renamed({"inc": "add"}), toggle()), (good(), Machine(2, [0], {})),
                                  (good().without(["inc", "set"]), toggle()),
                                  (good().with_map("more", [0, 0, 0, 0]), toggle())]:
            calls = [lambda: sound_for(analysis, MEANINGS, machine), lambda: just_for(analysis, MEANINGS, machine)]
            calls += [lambda thing=thing: are_sound_pairs(analysis, MEANINGS, machine, thing) for thing in (None, PAIRS, [])]
            calls += [lambda thing=thing: is_unsound(analysis, MEANINGS, machine, thing) for thing in (None, ((), [0]))]
            for call in calls:
                raised(self, Unlike, call)


if __name__ == "__main__":
    unittest.main()
