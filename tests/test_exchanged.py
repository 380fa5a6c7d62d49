"""[14] for what compares programs and analyses: places, statements and values exchanged one to one."""

import unittest

from factflows.contexts import context_of, is_context
from factflows.exact import exact_of, exactness
from factflows.follows import are_ranks, follow_of, is_follow, is_within, rank_rows
from factflows.least import is_least_paper, least_of, least_paper, onto, stands_for
from factflows.likes import least_form, same_values
from factflows.losses import are_tables, is_fewest, is_loss, loss_of
from factflows.machines import Machine, collecting, states_at
from factflows.mirrors import mirror_of, word_mirror
from factflows.pairs import are_alike, is_closed, made_program, pair_layers, pair_list
from factflows.patterns import has_pattern, pattern_depth, pattern_of, shown_program
from factflows.parting import is_parting, parting_of, word_parting
from factflows.sound import are_sound_pairs, is_unsound, just_for, sound_for
from factflows.words import are_word_rows, compare_words
from tests.helper import some_analyses, some_program, some_programs, some_soundness
from tests.test_losses import losing_trials, path_words

CHANGES = {"a": "b", "b": "ab", "ab": "a", "c": "d"}


def depth_or_none(pattern):
    return None if pattern is None else pattern_depth(pattern)


class ProgramsTest(unittest.TestCase):
    def test_places(self):
        for dice, one, other in some_programs(800, 120):
            ours, theirs = dice.shuffled(range(one.places)), dice.shuffled(range(other.places))
            two, more = one.moved(ours), other.moved(theirs)
            pairs = sorted((ours[m], theirs[n]) for m, n in follow_of(one, other))
            self.assertEqual(follow_of(two, more), pairs)
            self.assertTrue(is_follow(two, more, pairs))
            rows = [(ours[m], theirs[n], rank, why and (ours[why[0]], why[1])) for m, n, rank, why in rank_rows(one, other)]
            self.assertTrue(are_ranks(two, more, rows))
            self.assertEqual([row[:3] for row in sorted(rows, key=lambda row: row[:3])],
                             [row[:3] for row in rank_rows(two, more)])
            place, there = dice.pick(one.reached()), dice.pick(other.reached())
            to, its = ours[place], theirs[there]
            self.assertIs(is_within(two, to, more, its), is_within(one, place, other, there))
            pattern = pattern_of(one, place, other, there)
            self.assertEqual(depth_or_none(pattern_of(two, to, more, its)), depth_or_none(pattern))
            if pattern is not None:
                self.assertEqual([has_pattern(two, to, pattern), has_pattern(more, its, pattern)], [True, False])
                program, at = shown_program(two, to, more, its)
                self.assertEqual([is_within(program, at, one, place), is_within(program, at, other, there)], [True, False])
            told, moved = compare_words(one, place, other, there), compare_words(two, to, more, its)
            if told[0] == "parted":
                self.assertEqual(moved, told)
            else:
                rows = sorted((ours[m], tuple(sorted(theirs[n] for n in places))) for m, places in told[1])
                self.assertEqual(moved, ("within", rows))
                self.assertTrue(are_word_rows(two, to, more, its, rows))

    def test_statements(self):
        for dice, one, other in some_programs(801, 120):
            two, more = one.renamed(CHANGES), other.renamed(CHANGES)
            self.assertEqual(follow_of(two, more), follow_of(one, other))
            rows = [(m, n, rank, why and (why[0], CHANGES[why[1]])) for m, n, rank, why in rank_rows(one, other)]
            self.assertTrue(are_ranks(two, more, rows))
            self.assertEqual([row[:3] for row in rows], [row[:3] for row in rank_rows(two, more)])
            place, there = dice.pick(one.reached()), dice.pick(other.reached())
            self.assertEqual(depth_or_none(pattern_of(two, place, more, there)),
                             depth_or_none(pattern_of(one, place, other, there)))
            told, named = compare_words(one, place, other, there), compare_words(two, place, more, there)
            self.assertEqual(named[0], told[0])
            if told[0] == "within":
                self.assertEqual(named, told)
            else:
                self.assertEqual(len(named[1]), len(told[1]))


class AnalysesTest(unittest.TestCase):
    def test_values_of_pairs(self):
        for dice, one, mine, other, its in some_analyses(802, 120):
            ours, theirs = dice.shuffled(range(len(one))), dice.shuffled(range(len(other)))
            two, more = one.moved(ours), other.moved(theirs)
            pairs = sorted((ours[u], theirs[v]) for u, v in pair_list(one, other))
            self.assertEqual(pair_list(two, more), pairs)
            self.assertTrue(is_closed(two, more, pairs))
            layers = [sorted((ours[u], theirs[v]) for u, v in layer) for layer in pair_layers(one, other)]
            self.assertEqual(pair_layers(two, more), layers)
            answers = [mine[ours.index(value)] for value in range(len(one))]
            answered = [its[theirs.index(value)] for value in range(len(other))]
            self.assertEqual(are_alike(two, answers, more, answered)[0], are_alike(one, mine, other, its)[0])
            u, v = dice.below(len(one)), dice.below(len(other))
            self.assertIs(made_program(two, more, (ours[u], theirs[v])) is None, made_program(one, other, (u, v)) is None)

    def test_values_of_losses(self):
        for dice, one in losing_trials(803, 120):
            order = dice.shuffled(range(len(one)))
            two = one.moved(order)
            told, moved = loss_of(one), loss_of(two)
            tables = [(name, sorted((order[x], order[y]) for x, y in rows)) for name, rows in told[-1]]
            self.assertEqual((moved[0], moved[-1]), (told[0], tables))
            self.assertIs(are_tables(two, tables), are_tables(one, told[-1]))
            if told[0] == "loses":
                self.assertTrue(is_loss(two, told[1:3]))
                self.assertTrue(is_fewest(two, len(told[1]) - 1, tables))
                self.assertEqual((len(moved[1]), sum(len(word) for word in moved[1])),
                                 (len(told[1]), sum(len(word) for word in told[1])))

    def test_values_of_least_analyses(self):
        for dice, one, mine, _, _ in some_analyses(804, 120):
            order = dice.shuffled(range(len(one)))
            two, answers = one.moved(order), [mine[order.index(value)] for value in range(len(one))]
            self.assertEqual(least_form(two, answers), least_form(one, mine))
            classes, moved = least_of(one, mine)[2], least_of(two, answers)[2]
            same = same_values(one, mine, two, answers)
            for value, number in enumerate(classes):
                self.assertEqual(moved[order[value]], None if number is None else same[number])
            self.assertEqual([onto(two, answers, one, mine)[value] for value in range(len(one))],
                             [moved[order[value]] for value in range(len(one))])
            self.assertEqual(len(least_paper(two, answers)[1]), len(least_paper(one, mine)[1]))
            paper = least_paper(one, mine)
            told = [None] * len(one)
            for value, number in enumerate(paper[0]):
                told[order[value]] = number
            self.assertTrue(is_least_paper(two, answers, (told, self.moved_contexts(two, answers, told))))
            name = dice.pick(one.statements())
            self.assertEqual(stands_for(two, answers, name, one.statements()[0])[0],
                             stands_for(one, mine, name, one.statements()[0])[0])
            value, other = dice.pick(one.coming()), dice.pick(one.coming())
            context, its = context_of(one, mine, value, other), context_of(two, answers, order[value], order[other])
            self.assertIs(context is None, its is None)
            if context is not None:
                self.assertEqual(len(context), len(its))
                steps = [(kind, what if kind == "do" else order[what]) for kind, what in context]
                self.assertTrue(is_context(two, answers, order[value], order[other], steps))

    def moved_contexts(self, one, answers, classes):
        numbers = sorted(set(classes) - {None})
        return [(i, j, context_of(one, answers, classes.index(i), classes.index(j)))
                for i in numbers for j in numbers if i < j]

    def test_values_of_exact_analyses(self):
        for dice, one, mine, _, _ in some_analyses(805, 120):
            if len(path_words(one)) > 5:
                continue
            order = dice.shuffled(range(len(one)))
            two, answers = one.moved(order), [mine[order.index(value)] for value in range(len(one))]
            exact, sets = exact_of(one)
            other, others = exact_of(two)
            to = [others.index(tuple(sorted(order[value] for value in some))) for some in sets]
            self.assertEqual(exact.moved(to), other)
            self.assertEqual(exactness(two, answers)[0], exactness(one, mine)[0])

    def test_statements(self):
        for _, one, mine, other, its in some_analyses(806, 120):
            two, more = one.renamed(CHANGES), other.renamed(CHANGES)
            self.assertEqual(pair_layers(two, more), pair_layers(one, other))
            self.assertEqual(least_of(two, mine)[1:], least_of(one, mine)[1:])
            self.assertEqual(least_of(two, mine)[0], least_of(one, mine)[0].renamed(CHANGES))
            self.assertEqual(are_alike(two, mine, more, its)[:2], are_alike(one, mine, other, its)[:2])
            self.assertEqual(loss_of(two)[0], loss_of(one)[0])
            self.assertEqual(dict(loss_of(two)[-1]), {CHANGES[name]: rows for name, rows in loss_of(one)[-1]})


def moved_set(order, some):
    return tuple(sorted(order[part] for part in some))


def moved_machine(order, machine):
    moves = {name: [(order[a], order[b]) for a, b in machine.moves(name)] for name in machine.statements()}
    return Machine(machine.states, [order[first] for first in machine.firsts()], moves)


def renamed_machine(machine):
    moves = {CHANGES[name]: machine.moves(name) for name in machine.statements()}
    return Machine(machine.states, machine.firsts(), moves)


class MirrorsTest(unittest.TestCase):
    NAMES = ["a", "ab", "b", "c"]

    def test_places(self):
        for dice, one, other in some_programs(807, 80, 4):
            theirs = dice.shuffled(range(other.places))
            more = other.moved(theirs)
            analysis, sets = mirror_of(other, self.NAMES)
            moved, others = mirror_of(more, self.NAMES)
            self.assertEqual(others, sorted(moved_set(theirs, some) for some in sets))
            self.assertEqual(moved, analysis.moved([others.index(moved_set(theirs, some)) for some in sets]))
            place, there = dice.pick(one.reached()), dice.pick(other.reached())
            told, its = parting_of(one, place, other, there), parting_of(one, place, more, theirs[there])
            self.assertIs(told is None, its is None)
            self.assertIs(is_parting(one, place, more, theirs[there], told), told is not None)

    def test_statements(self):
        for dice, one, other in some_programs(808, 80, 4):
            two, more = one.renamed(CHANGES), other.renamed(CHANGES)
            names = [CHANGES[name] for name in self.NAMES]
            analysis, sets = mirror_of(other, self.NAMES)
            self.assertEqual(mirror_of(more, names), (analysis.renamed(CHANGES), sets))
            word = tuple(dice.pick(self.NAMES) for _ in range(dice.below(5)))
            analysis, sets = word_mirror(word, self.NAMES)
            self.assertEqual(word_mirror(tuple(CHANGES[name] for name in word), names), (analysis.renamed(CHANGES), sets))
            place, there = dice.pick(one.reached()), dice.pick(other.reached())
            told, its = parting_of(one, place, other, there), parting_of(two, place, more, there)
            self.assertEqual(its, None if told is None else told.renamed(CHANGES))
            self.assertIs(word_parting(one, place, other, there) is None, word_parting(two, place, more, there) is None)


class MachinesTest(unittest.TestCase):
    def test_states(self):
        for dice, analysis, meanings, machine in some_soundness(809, 200):
            order = dice.shuffled(range(machine.states))
            other, meant = moved_machine(order, machine), [moved_set(order, some) for some in meanings]
            program = some_program(dice, ["a", "b"])
            self.assertEqual(states_at(other, program), [None if states is None else list(moved_set(order, states))
                                                         for states in states_at(machine, program)])
            collected, sets = collecting(machine)
            its, others = collecting(other)
            self.assertEqual(others, sorted(moved_set(order, some) for some in sets))
            self.assertEqual(its, collected.moved([others.index(moved_set(order, some)) for some in sets]))
            told, moved = sound_for(analysis, meanings, machine), sound_for(analysis, meant, other)
            if told[0] == "sound":
                pairs = sorted((value, order[state]) for value, state in told[1])
                self.assertEqual(moved, ("sound", pairs))
                self.assertTrue(are_sound_pairs(analysis, meant, other, pairs))
            else:
                self.assertEqual(moved[:2], told[:2])
                self.assertTrue(is_unsound(analysis, meant, other, (told[1], [order[state] for state in told[2]])))
            self.check_just(just_for(analysis, meanings, machine), just_for(analysis, meant, other),
                            lambda row: (row[0], moved_set(order, row[1])))

    def test_values(self):
        for dice, analysis, meanings, machine in some_soundness(810, 200):
            order = dice.shuffled(range(len(analysis)))
            other, meant = analysis.moved(order), [meanings[order.index(value)] for value in range(len(order))]
            told, moved = sound_for(analysis, meanings, machine), sound_for(other, meant, machine)
            if told[0] == "sound":
                self.assertEqual(moved, ("sound", sorted((order[value], state) for value, state in told[1])))
            else:
                self.assertEqual(moved, told)
            self.check_just(just_for(analysis, meanings, machine), just_for(other, meant, machine),
                            lambda row: (order[row[0]], row[1]))

    def check_just(self, told, moved, change):
        self.assertEqual(moved[0], told[0])
        if told[0] == "just":
            self.assertEqual(moved[1], sorted(change(row) for row in told[1]))

    def test_statements(self):
        for _, analysis, meanings, machine in some_soundness(811, 200):
            other, its = analysis.renamed(CHANGES), renamed_machine(machine)
            self.assertEqual(collecting(its), (collecting(machine)[0].renamed(CHANGES), collecting(machine)[1]))
            told, moved = sound_for(analysis, meanings, machine), sound_for(other, meanings, its)
            self.assertEqual(moved[0], told[0])
            self.assertEqual(moved[1] if told[0] == "sound" else len(moved[1]),
                             told[1] if told[0] == "sound" else len(told[1]))
            if told[0] == "unsound":
                word = tuple(CHANGES[name] for name in told[1])
                self.assertTrue(is_unsound(other, meanings, its, (word, told[2])))
            self.assertEqual(just_for(other, meanings, its)[:2], just_for(analysis, meanings, machine)[:2])


if __name__ == "__main__":
    unittest.main()
