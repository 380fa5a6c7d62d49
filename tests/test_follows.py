"""[50] and [51]: followings and ranks; [6]; of [4] NoPlace and Unreached where two places are compared."""

import unittest
from itertools import chain, combinations, product

from factflows.errors import NoPlace, Unreached
from factflows.facts import facts_of
from factflows.follows import are_ranks, follow_of, is_follow, is_within, rank_rows
from factflows.patterns import pattern_of, shown_program
from factflows.programs import Program, line_program
from factflows.words import are_word_rows, compare_words
from tests.helper import (Dice, asked_again, holds_pair, is_under, keeping_analysis, odd_values, raised, reached_edges,
                          slow_follow, slow_ranks, slow_reached, some_analysis, some_program, some_programs, spoilt,
                          stays)

ONE = Program(3, [0], [(0, "b", 1), (0, "c", 1), (1, "a", 2)])
OTHER = Program(4, [0], [(0, "b", 1), (0, "c", 2), (1, "a", 3), (2, "a", 3)])


def are_different_pairs(one, other, pairs):
    reached, there = slow_reached(one), slow_reached(other)
    for pair in pairs:
        if type(pair) is not tuple or len(pair) != 2 or type(pair[0]) is not int or type(pair[1]) is not int:
            return False
        if pair[0] not in reached or pair[1] not in there:
            return False
    return len(set(pairs)) == len(pairs)


def slow_is_follow(one, other, thing):
    if type(thing) is not list or not are_different_pairs(one, other, thing):
        return False
    return all(holds_pair(one, other, thing, pair) for pair in thing)


def is_right_rank(one, other, thing, row):
    m, n, rank, why = row
    if type(rank) is not int or rank < 0:
        return False
    if rank == 0:
        return why is None and m in one.begins() and n not in other.begins()
    if type(why) is not tuple or len(why) != 2 or type(why[0]) is not int or type(why[1]) is not str:
        return False
    k, s = why
    if (k, s, m) not in reached_edges(one):
        return False
    lower = [(a, b) for a, b, other_rank, _ in thing if other_rank < rank]
    return all((k, l) in lower for l, t, at in reached_edges(other) if t == s and at == n)


def slow_are_ranks(one, other, thing):
    if type(thing) is not list or any(type(row) is not tuple or len(row) != 4 for row in thing):
        return False
    if not are_different_pairs(one, other, [row[:2] for row in thing]):
        return False
    if any(type(row[2]) is not int for row in thing):
        return False
    return all(is_right_rank(one, other, thing, row) for row in thing)


class ExamplesTest(unittest.TestCase):
    def test_as_written(self):
        self.assertEqual([follow_of(ONE, OTHER), follow_of(OTHER, ONE)],
                         [[(0, 0)], [(0, 0), (1, 1), (2, 1), (3, 2)]])
        self.assertEqual([is_within(OTHER, 3, ONE, 2), rank_rows(ONE, OTHER)[-1]], [True, (2, 3, 2, (1, "a"))])


class FollowOfTest(unittest.TestCase):
    def test_against_a_slow_reckoning(self):
        some = 0
        for _, one, other in some_programs(200, 500):
            told = stays(self, [one, other], lambda: follow_of(one, other))
            self.assertEqual(told, slow_follow(one, other))
            some += bool(told) and len(told) < len(slow_reached(one)) * len(slow_reached(other))
            self.assertTrue(all(type(pair) is tuple for pair in told))
        self.assertGreater(some, 150)

    def test_it_is_all_that_stands_in_some_following(self):
        for _, one, other in some_programs(201, 300, 3, 6):
            every = list(product(slow_reached(one), slow_reached(other)))
            if len(every) > 8:
                continue
            found = set()
            for pairs in chain.from_iterable(combinations(every, many) for many in range(len(every) + 1)):
                if slow_is_follow(one, other, list(pairs)):
                    found |= set(pairs)
            self.assertEqual(follow_of(one, other), sorted(found))

    def test_all_programs_of_two_places_and_one_statement(self):
        edges = list(product(range(2), "a", range(2)))
        programs = [Program(2, begins, [edge for edge, there in zip(edges, some) if there])
                    for some in product((False, True), repeat=4) for begins in ([0], [1], [0, 1])]
        for one, other in product(programs, repeat=2):
            self.assertEqual(follow_of(one, other), slow_follow(one, other))
            ranks = slow_ranks(one, other)
            self.assertEqual(rank_rows(one, other), [pair + ranks[pair] for pair in sorted(ranks)])

    def test_each_place_follows_itself_and_followings_go_on(self):
        for dice, one, other in some_programs(202, 150):
            own = follow_of(one, one)
            for place in one.reached():
                self.assertIn((place, place), own)
            third = some_program(dice, ["a", "b", "ab"])
            first, second, both = follow_of(one, other), follow_of(other, third), follow_of(one, third)
            for (m, n), (k, p) in product(first, second):
                if n == k:
                    self.assertIn((m, p), both)

    def test_places_that_are_not_reached_are_in_no_pair(self):
        one = Program(3, [0], [(2, "a", 0), (2, "b", 1), (0, "a", 1)])
        other = Program(3, [1], [(1, "a", 2), (0, "a", 1)])
        # The edge from place 2 means nothing: else place 1 of other would not follow place 0.
        self.assertEqual(follow_of(one, other), [(0, 1), (1, 2)])
        self.assertEqual(rank_rows(one, other), [(0, 2, 0, None), (1, 1, 1, (0, "a"))])

    def test_several_begin_places_and_edges(self):
        one = Program(2, [0, 1], [(0, "a", 1), (0, "b", 1)])
        other = Program(3, [0, 2], [(0, "a", 2), (0, "b", 2), (0, "a", 1)])
        self.assertEqual(follow_of(one, other), [(0, 0), (0, 2), (1, 2)])
        self.assertEqual(rank_rows(one, other), [(0, 1, 0, None), (1, 0, 1, (0, "a")), (1, 1, 0, None)])

    def test_results_are_new(self):
        asked_again(self, lambda: follow_of(ONE, OTHER))
        asked_again(self, lambda: rank_rows(ONE, OTHER))

    def test_great_programs(self):
        line = line_program(("a", "b") * 100)
        self.assertEqual(follow_of(line, line), [(place, place) for place in range(201)])
        ring = Program(2, [0], [(0, "a", 1), (1, "b", 0)])
        self.assertEqual(follow_of(line, ring), [(place, place % 2) for place in range(201)])
        self.assertEqual(follow_of(ring, line), [])
        # The ranks are as great as the line is long, if each place of it is a begin place.
        loop = Program(2, [0], [(0, "a", 1), (1, "a", 1)])
        line = line_program(("a",) * 200).with_begins(list(range(201)))
        self.assertEqual(follow_of(loop, line), [(0, place) for place in range(201)])
        self.assertEqual(rank_rows(loop, line)[1:], [(1, place, place + 1, (1, "a")) for place in range(1, 201)])


class IsFollowTest(unittest.TestCase):
    def check(self, one, other, thing, wanted):
        told = stays(self, [one, other, thing], lambda: is_follow(one, other, thing))
        self.assertIs(told, wanted)

    def test_right_things_in_other_orders(self):
        for dice, one, other in some_programs(203, 200):
            pairs = follow_of(one, other)
            self.check(one, other, dice.shuffled(pairs), True)
            self.check(one, other, [], True)
            for pair in pairs:
                less = [more for more in pairs if more != pair]
                self.check(one, other, less, slow_is_follow(one, other, less))

    def test_things_spoilt(self):
        right = wrong = 0
        for dice, one, other in some_programs(204, 500):
            pairs = follow_of(one, other)
            for _ in range(12):
                thing = spoilt(dice, dice.shuffled(pairs))
                wanted = slow_is_follow(one, other, thing)
                self.check(one, other, thing, wanted)
                right, wrong = right + wanted, wrong + (not wanted)
        self.assertGreater(min(right, wrong), 200)

    def test_drawn_pairs(self):
        for dice, one, other in some_programs(205, 400, 3, 7):
            every = list(product(range(one.places), range(other.places)))
            for _ in range(8):
                thing = [pair for pair in every if dice.below(2)]
                self.check(one, other, thing, slow_is_follow(one, other, thing))

    def test_small_spoils(self):
        good = [(0, 0), (1, 1), (2, 1), (3, 2)]
        self.check(OTHER, ONE, good, True)
        for pair in good:
            self.check(OTHER, ONE, good + [pair], False)
            self.check(OTHER, ONE, [list(pair) if one == pair else one for one in good], False)
            self.check(OTHER, ONE, good + [(pair[0], pair[1], 0)], False)
            self.check(OTHER, ONE, good + [(pair[0],)], False)
        for pair in [(4, 0), (-1, 0), (0, 3), (0, -1), (2 ** 80, 0), (0, -2 ** 80), (True, 1), (1, True), (None, 0),
                     ("0", 0), (0, "0"), ([0], 0), (0, (0,)), {0: 0}, "00", (), None, 0]:
            self.check(OTHER, ONE, good + [pair], False)
            self.check(OTHER, ONE, [pair] + good, False)
        self.check(OTHER, ONE, [(False, 0)] + good[1:], False)
        self.check(OTHER, ONE, [(0, 0), (True, 1), (2, 1), (3, 2)], False)
        self.check(OTHER, ONE, [(1, 1)], False)
        self.check(OTHER, ONE, [(0, 0), (3, 2)], False)
        self.check(OTHER, ONE, [(0, 0), (3, 2), (1, 1)], False)

    def test_places_that_are_not_reached(self):
        one = Program(3, [0], [(2, "a", 2), (2, "a", 1), (0, "a", 1)])
        self.check(one, one, [(0, 0), (1, 1)], True)
        self.check(one, one, [(0, 0), (1, 1), (2, 2)], False)
        self.check(one, one, [(2, 2)], False)

    def test_other_values(self):
        for thing in odd_values():
            self.check(ONE, OTHER, thing, thing == [] and type(thing) is list)
            self.check(ONE, OTHER, [(0, 0), thing], False)
        for thing in (((0, 0),), {(0, 0): 1}, {(0, 0)}, iter([(0, 0)]), [[(0, 0)]], [[0, 0]]):
            self.check(ONE, OTHER, thing, False)
        self.check(ONE, OTHER, [(0, 0)], True)
        self.check(ONE, OTHER, [(0, 0)] * 9000, False)

    def test_long_lists(self):
        line = line_program(("a",) * 1000)
        pairs = [(place, place) for place in range(1001)]
        self.check(line, line, pairs, True)
        self.check(line, line, pairs[::-1], True)
        self.check(line, line, pairs[:500] + pairs[501:], False)


class IsWithinTest(unittest.TestCase):
    def test_against_a_slow_reckoning(self):
        for _, one, other in some_programs(206, 150):
            pairs = slow_follow(one, other)
            for place, there in product(slow_reached(one), slow_reached(other)):
                told = stays(self, [one, other], lambda: is_within(one, place, other, there))
                self.assertIs(told, (place, there) in pairs)

    def test_the_facts_by_drawn_analyses(self):
        dice = Dice(207)
        for _, one, other in some_programs(208, 150):
            pairs = follow_of(one, other)
            for at in range(6):
                names = sorted(set(one.statements() + other.statements()))
                analysis = keeping_analysis(dice, names) if at == 0 else some_analysis(dice, names)
                rows, facts, others = analysis.joins.rows(), facts_of(analysis, one), facts_of(analysis, other)
                for m, n in pairs:
                    self.assertTrue(is_under(rows, facts[m], others[n]))

    def test_loops(self):
        loop = Program(1, [0], [(0, "a", 0)])
        line = line_program(("a", "a"))
        self.assertEqual([is_within(line, place, loop, 0) for place in range(3)], [True, True, True])
        self.assertEqual([is_within(loop, 0, line, place) for place in range(3)], [False, False, False])
        self.assertEqual([row[2:] for row in rank_rows(loop, line)], [(1, (0, "a")), (0, None), (0, None)])
        around = Program(2, [0], [(0, "a", 1), (1, "a", 0)])
        self.assertIs(is_within(around, 0, loop, 0), True)
        # Its place 1 is no begin place: so it is more than its place 0 lacks.
        self.assertIs(is_within(loop, 0, around, 0), False)


class RanksTest(unittest.TestCase):
    def check(self, one, other, thing, wanted):
        told = stays(self, [one, other, thing], lambda: are_ranks(one, other, thing))
        self.assertIs(told, wanted)

    def test_against_a_slow_reckoning(self):
        highest = 0
        for _, one, other in some_programs(209, 500):
            ranks = slow_ranks(one, other)
            rows = stays(self, [one, other], lambda: rank_rows(one, other))
            self.assertEqual(rows, [pair + ranks[pair] for pair in sorted(ranks)])
            fallen = {row[:2] for row in rows}
            every = set(product(slow_reached(one), slow_reached(other)))
            self.assertEqual(sorted(every - fallen), slow_follow(one, other))
            highest = max([highest] + [row[2] for row in rows])
        self.assertGreater(highest, 3)

    def test_right_things_in_other_orders(self):
        for dice, one, other in some_programs(210, 200):
            rows = rank_rows(one, other)
            self.check(one, other, dice.shuffled(rows), True)
            some = [row for row in rows if dice.below(8)]
            self.check(one, other, some, slow_are_ranks(one, other, some))
            higher = [row if row[2] == 0 else (row[0], row[1], row[2] * 3 + 2 ** 70, row[3]) for row in rows]
            self.check(one, other, higher, True)

    def test_other_reasons(self):
        for dice, one, other in some_programs(211, 100):
            rows = rank_rows(one, other)
            for at in sorted({dice.below(len(rows)) for _ in range(3)}) if rows else []:
                m, n, rank, _ = rows[at]
                for k, s in product(range(one.places), ["a", "b", "ab", "c", "nameless"]):
                    for more in (rank, rank + 30):
                        thing = rows[:at] + [(m, n, more, (k, s))] + rows[at + 1:]
                        self.check(one, other, thing, slow_are_ranks(one, other, thing))

    def test_things_spoilt(self):
        right = wrong = 0
        for dice, one, other in some_programs(212, 500):
            rows = rank_rows(one, other)
            for _ in range(12):
                thing = spoilt(dice, dice.shuffled(rows))
                wanted = slow_are_ranks(one, other, thing)
                self.check(one, other, thing, wanted)
                right, wrong = right + wanted, wrong + (not wanted)
        self.assertGreater(min(right, wrong), 200)

    def test_small_spoils(self):
        good = rank_rows(ONE, OTHER)
        self.assertEqual(good[-1], (2, 3, 2, (1, "a")))
        self.check(ONE, OTHER, good, True)
        wrong = [(2, 3, 2, [1, "a"]), [2, 3, 2, (1, "a")], (2, 3, 2, (True, "a")), (2, 3, 1, (1, "a")), (2, 3, 2, None),
                 (2, 3, 2, (1, "b")), (2, 3, 2, (0, "a")), (2, 3, 2, (1, "a", 2)), (2, 3, 2, (1,)), (2, 3, -1, (1, "a")),
                 (2, 3, True, (1, "a")), (2, 3, None, (1, "a")), (2, 3, "2", (1, "a")), (2, 3, 0, None), (2, 3, 2, ()),
                 (2, 3, 0, (1, "a")), (2, 3, (1, "a")), (2, 3, 2, (1, "a"), 0), (2, 3, 2, (-1, "a")), (2, 3, 2, "1a"),
                 (2, 3, 2, (1, None)), (2, 3, 2, (1, ["a"])), (2, 3, 2, ([1], "a")), (3, 3, 2, (1, "a")), (2, 3, 2, 0),
                 (2, 4, 2, (1, "a")), (-1, 3, 2, (1, "a")), (2, -1, 2, (1, "a")), (2, 3, 2, (2 ** 80, "a")),
                 (2, 3, 2, (1, b"a")), (2, 3, 2, (1, "")), (2, True, 2, (1, "a")), (True, 3, 2, (1, "a")), (), None]
        for row in wrong:
            self.check(ONE, OTHER, good[:-1] + [row], False)
        self.check(ONE, OTHER, good + [good[-1]], False)
        self.check(ONE, OTHER, good + [(2, 3, 5, (1, "a"))], False)
        self.check(ONE, OTHER, good[:-1] + [(2, 3, 5, (1, "a"))], True)
        self.check(ONE, OTHER, good[:-1], True)
        self.check(ONE, OTHER, [], True)
        self.check(ONE, OTHER, [(2, 3, 2, (1, "a"))], False)

    def test_a_begin_place_may_have_another_rank(self):
        one = Program(1, [0], [(0, "a", 0)])
        other = Program(2, [0], [(0, "b", 1)])
        self.assertEqual(rank_rows(one, other), [(0, 0, 1, (0, "a")), (0, 1, 0, None)])
        self.check(one, other, [(0, 1, 1, (0, "a"))], True)
        self.check(one, other, [(0, 1, 7, (0, "a")), (0, 0, 7, (0, "a"))], True)
        self.check(one, other, [(0, 1, False, None)], False)
        self.check(one, other, [(0, 0, 0, None)], False)

    def test_other_values(self):
        for thing in odd_values():
            self.check(ONE, OTHER, thing, thing == [] and type(thing) is list)
            self.check(ONE, OTHER, rank_rows(ONE, OTHER) + [thing], False)
            self.check(ONE, OTHER, rank_rows(ONE, OTHER)[:-1] + [(2, 3, 2, thing)], False)
            great = type(thing) is int and thing > 1
            self.check(ONE, OTHER, rank_rows(ONE, OTHER)[:-1] + [(2, 3, thing, (1, "a"))], great)
        self.check(ONE, OTHER, tuple(rank_rows(ONE, OTHER)), False)


class ErrorsTest(unittest.TestCase):
    """All that takes two places: NoPlace for the first of the two, then Unreached for the first of the two."""

    def calls(self, one, place, other, there):
        return [lambda: is_within(one, place, other, there), lambda: pattern_of(one, place, other, there),
                lambda: shown_program(one, place, other, there), lambda: compare_words(one, place, other, there),
                lambda: compare_words(one, place, other, there, most=1)] + [
                    lambda thing=thing: are_word_rows(one, place, other, there, thing) for thing in (None, [], "x")]

    def test_no_place_and_unreached(self):
        one = Program(3, [0], [(0, "a", 1), (2, "a", 1)])
        other = Program(4, [3, 0], [(0, "a", 2), (1, "b", 2)])
        for place, there in product((-2 ** 80, -1, 0, 1, 2, 3, 4, 2 ** 80), repeat=2):
            kinds = [(NoPlace, place, not 0 <= place < 3), (NoPlace, there, not 0 <= there < 4),
                     (Unreached, place, place == 2), (Unreached, there, there == 1)]
            wanted = [(kind, asked) for kind, asked, applies in kinds if applies]
            for call in self.calls(one, place, other, there):
                if wanted:
                    error = raised(self, wanted[0][0], lambda: stays(self, [one, other], call))
                    self.assertEqual(error.place, wanted[0][1])
                    self.assertIs(type(error.place), int)

    def test_the_object_is_kept(self):
        for great in (2 ** 80, -2 ** 80):
            for call in self.calls(ONE, great, OTHER, 0) + self.calls(ONE, 0, OTHER, great):
                self.assertIs(raised(self, NoPlace, call).place, great)


if __name__ == "__main__":
    unittest.main()
