"""[100]: the least program that has places alike to some; [13]."""

import unittest
from itertools import combinations, permutations, product

from factflows.errors import NoPlace, Unreached
from factflows.facts import facts_of
from factflows.follows import follow_of, is_within
from factflows.programs import Program, line_program
from factflows.small import are_like_places, small_program
from tests.helper import (Dice, asked_again, raised, reached_edges, slow_follow, slow_reached, some_analysis, some_program,
                          some_programs, stays)

DOUBLE = Program(5, [0], [(0, "a", 1), (0, "a", 2), (1, "b", 3), (2, "b", 3), (0, "c", 4)])


def slow_small(program, asked):
    """The least program by the pairs that follow: a place for each class that is needed, edges from the highest ones."""
    within = set(slow_follow(program, program))
    reached = slow_reached(program)
    first = {p: min(q for q in reached if (p, q) in within and (q, p) in within) for p in reached}
    edges = {(first[m], s, first[n]) for m, s, n in reached_edges(program)}
    edges = {(m, s, n) for m, s, n in edges
             if not any(t == s and to == n and k != m and (m, k) in within for k, t, to in edges)}
    needed = {first[p] for p in asked}
    for _ in range(program.places):
        needed |= {m for m, s, n in edges if n in needed}
    order = sorted(needed)
    at = {p: order.index(p) for p in order}
    begins = [at[p] for p in order if p in program.begins()]
    return (Program(len(order), begins, [(at[m], s, at[n]) for m, s, n in edges if n in needed]), [at[first[p]] for p in asked])


def all_programs(places, names, edges):
    """All programs with so many places and so many edges."""
    every = list(product(range(places), names, range(places)))
    for begins in range(1, 1 << places):
        for some in combinations(every, edges):
            yield Program(places, [p for p in range(places) if begins >> p & 1], list(some))


def has_alike(program, asked, other):
    """Whether a program has a place alike to each of those asked for."""
    within, back = set(follow_of(program, other)), set(follow_of(other, program))
    return all(any((p, q) in within and (q, p) in back for q in range(other.places)) for p in asked)


def doubled(dice, program):
    """A program in which a place stands twice, with the edges of both, and perhaps fewer edges from the second one."""
    place, more = dice.below(program.places), program.places
    begins = program.begins() + ([more] if place in program.begins() else [])
    edges = program.edges()
    edges += [(m, s, more) for m, s, n in edges if n == place]
    edges += [(more, s, n) for m, s, n in edges if m == place and dice.below(2)]
    return Program(more + 1, begins, edges)


class ExamplesTest(unittest.TestCase):
    def test_as_written(self):
        self.assertEqual(small_program(DOUBLE, [3, 1]), (Program(3, [0], [(0, 'a', 1), (1, 'b', 2)]), [2, 1]))
        self.assertIs(are_like_places(DOUBLE, [1, 3], DOUBLE, [2, 3]), True)
        other = Program(4, [0], [(0, "a", 1), (0, "a", 2), (2, "b", 2), (1, "b", 3), (2, "b", 3)])
        self.assertEqual(small_program(other, [3]), (Program(3, [0], [(0, 'a', 1), (1, 'b', 1), (1, 'b', 2)]), [2]))


class SmallProgramTest(unittest.TestCase):
    """[13]"""

    def test_against_a_slow_reckoning(self):
        dice, fewer, cut = Dice(950), 0, 0
        for _ in range(400):
            program = some_program(dice, ["b", "a", "ab"][:1 + dice.below(3)], 6, 14)
            for _ in range(dice.below(3)):
                program = doubled(dice, program)
            program = program.moved(dice.shuffled(range(program.places)))
            reached = slow_reached(program)
            asked = [dice.pick(reached) for _ in range(1 + dice.below(4))]
            told = stays(self, [program, asked], lambda: small_program(program, asked))
            self.assertEqual((type(told), type(told[0]), type(told[1])), (tuple, Program, list))
            self.assertEqual(told, slow_small(program, asked))
            self.assertTrue(are_like_places(program, asked, told[0], told[1]))
            self.assertEqual(told[0].reached(), list(range(told[0].places)))
            fewer += told[0].places < len(reached)
            kept = program.kept(reached).leading([reached.index(place) for place in asked])
            inner = [edge for edge in program.edges() if edge[0] in reached and edge[2] in [reached[at] for at in kept]]
            cut += told[0].places == len(kept) and len(told[0].edges()) < len(inner)
        self.assertGreater(fewer, 200)
        self.assertGreater(cut, 20)

    def test_there_is_no_lesser_program(self):
        dice, sizes = Dice(951), []
        while len(sizes) < 40:
            names = ["a", "b"][:1 + dice.below(2)]
            program = some_program(dice, names, 4, 8)
            asked = [dice.pick(program.reached()) for _ in range(1 + dice.below(2))]
            small, _ = small_program(program, asked)
            places, edges = small.places, len(small.edges())
            if places > 3 or places == 3 and (len(names) > 1 and edges > 2 or edges > 4) or places == 1 and dice.below(8):
                continue
            self.assertTrue(has_alike(program, asked, small))
            lesser = [(many, count) for many in range(1, places) for count in range(many * many * len(names) + 1)]
            for many, count in lesser + [(places, count) for count in range(edges)]:
                for other in all_programs(many, names, count):
                    self.assertFalse(has_alike(program, asked, other))
            sizes.append((places, edges))
        self.assertGreater(sum(places > 1 for places, _ in sizes), 15)
        self.assertGreater(sum(places > 2 for places, _ in sizes), 4)

    def test_there_is_one_such_program(self):
        dice, tried = Dice(952), 0
        while tried < 25:
            program = some_program(dice, ["a"], 4, 8)
            asked = [dice.pick(program.reached())]
            small, _ = small_program(program, asked)
            if small.places not in (2, 3) or len(small.edges()) > 4:
                continue
            moved = [small.moved(list(order)) for order in permutations(range(small.places))]
            for other in all_programs(small.places, ["a"], len(small.edges())):
                if has_alike(program, asked, other):
                    self.assertIn(other, moved)
            tried += 1

    def test_of_its_own_result(self):
        for dice, one, _ in some_programs(953, 200, 6, 14):
            asked = [dice.pick(one.reached()) for _ in range(1 + dice.below(3))]
            small, places = small_program(one, asked)
            self.assertEqual(small_program(small, places), (small, places))

    def test_the_order_of_its_places(self):
        for dice, one, _ in some_programs(954, 200, 6, 14):
            asked = [dice.pick(one.reached()) for _ in range(1 + dice.below(3))]
            small, _ = small_program(one, asked)
            least = [min(p for p in one.reached() if is_within(one, p, small, q) and is_within(small, q, one, p))
                     for q in range(small.places)]
            self.assertEqual(least, sorted(least))

    def test_moved_and_doubled_ones(self):
        for dice, one, _ in some_programs(955, 200, 5, 12):
            place = dice.pick(one.reached())
            small, places = small_program(one, [place])
            order = dice.shuffled(range(one.places))
            for other, there in ((one.moved(order), order[place]), (doubled(dice, one), place)):
                its, at = small_program(other, [there])
                self.assertEqual((its.places, len(its.edges()), len(its.begins())),
                                 (small.places, len(small.edges()), len(small.begins())))
                self.assertTrue(are_like_places(small, places, its, at))

    def test_the_facts(self):
        """By each analysis places that are alike have one fact."""
        dice = Dice(956)
        for _, one, _ in some_programs(957, 150, 6, 14):
            asked = one.reached()
            small, places = small_program(one, asked)
            analysis = some_analysis(dice, ["a", "b", "ab"])
            facts, its = facts_of(analysis, one), facts_of(analysis, small)
            self.assertEqual([facts[place] for place in asked], [its[place] for place in places])

    def test_unreached_places(self):
        one = Program(5, [1], [(1, "a", 3), (0, "a", 3), (0, "b", 3), (4, "b", 1), (3, "a", 2)])
        self.assertEqual(small_program(one, [3]), (Program(2, [0], [(0, "a", 1)]), [1]))
        # An edge from a place that is not reached does not keep another one away.
        two = Program(4, [0], [(0, "a", 1), (1, "b", 2), (3, "b", 2), (0, "a", 2), (2, "a", 2)])
        self.assertEqual(small_program(two, [2])[0], slow_small(two, [2])[0])

    def test_places_asked_twice(self):
        wanted = Program(3, [0], [(0, 'a', 1), (1, 'b', 2)])
        self.assertEqual(small_program(DOUBLE, [3, 1, 3, 2, 0, 1]), (wanted, [2, 1, 2, 1, 0, 1]))
        self.assertEqual(small_program(DOUBLE, [0, 0]), (Program(1, [0], []), [0, 0]))

    def test_edges_beside_greater_ones(self):
        # 1 is within 2, which has more: so only the edge from 2 stays, and 1 is not needed.
        one = Program(4, [0], [(0, "a", 1), (0, "a", 2), (0, "b", 2), (1, "c", 3), (2, "c", 3)])
        self.assertEqual(small_program(one, [3]), (Program(3, [0], [(0, "a", 1), (0, "b", 1), (1, "c", 2)]), [2]))
        self.assertEqual(small_program(one, [3, 1])[0].edges(),
                         [(0, "a", 1), (0, "a", 2), (0, "b", 2), (2, "c", 3)])
        # By another statement it stays.
        two = one.with_edges([(1, "d", 3)])
        self.assertEqual(small_program(two, [3]),
                         (Program(4, [0], [(0, "a", 1), (0, "a", 2), (0, "b", 2), (1, "d", 3), (2, "c", 3)]), [3]))

    def test_begin_places(self):
        one = Program(3, [0, 1], [(0, "a", 2), (1, "a", 2)])
        self.assertEqual(small_program(one, [2]), (Program(2, [0], [(0, "a", 1)]), [1]))
        # A begin place that has an edge into it is above one that has none.
        two = Program(3, [0, 1], [(0, "a", 2), (1, "a", 2), (1, "b", 1)])
        self.assertEqual(small_program(two, [2]), (Program(2, [0], [(0, "a", 1), (0, "b", 0)]), [1]))
        self.assertEqual(small_program(two, [0]), (Program(1, [0], []), [0]))
        self.assertEqual(small_program(Program(4, [3], []), [3]), (Program(1, [0], []), [0]))

    def test_long_ones(self):
        word = ("a", "b") * 20
        self.assertEqual(small_program(line_program(word), [40]), (line_program(word), [40]))
        both = line_program(word) + line_program(word)
        self.assertEqual(small_program(both, [81, 20]), (line_program(word), [40, 20]))
        ring = Program(300, [0], [(at, "a", (at + 1) % 300) for at in range(300)] + [(0, "a", 0)])
        small, _ = small_program(ring, [299])
        # All places are unlike, and of the edges into 0 the one from 0 itself is the greatest.
        self.assertEqual(small, ring.without_edges([(299, "a", 0)]))

    def test_results_are_new(self):
        asked_again(self, lambda: small_program(DOUBLE, [3, 1])[1])


class AreLikePlacesTest(unittest.TestCase):
    def test_against_a_slow_reckoning(self):
        counts = {True: 0, False: 0}
        for dice, one, other in some_programs(958, 400):
            within, back = slow_follow(one, other), slow_follow(other, one)
            for _ in range(4):
                many = 1 + dice.below(3)
                places, others = [[dice.pick(some.reached()) for _ in range(many)] for some in (one, other)]
                told = stays(self, [one, other, places, others], lambda: are_like_places(one, places, other, others))
                self.assertIs(told, all((p, q) in within and (q, p) in back for p, q in zip(places, others)))
                counts[told] += 1
        self.assertGreater(min(counts.values()), 100)

    def test_one_that_is_unlike(self):
        self.assertIs(are_like_places(DOUBLE, [0, 1, 2, 3, 4], DOUBLE, [0, 2, 1, 3, 4]), True)
        for at in range(5):
            others = [0, 2, 1, 3, 4]
            others[at] = (at + 3) % 5
            self.assertIs(are_like_places(DOUBLE, [0, 1, 2, 3, 4], DOUBLE, others), False)
        # Within in one direction alone is not enough, in either of them.
        more = DOUBLE.with_edges([(0, "d", 1)])
        self.assertIs(are_like_places(DOUBLE, [1], more, [1]), False)
        self.assertIs(are_like_places(more, [1], DOUBLE, [1]), False)
        self.assertIs(are_like_places(DOUBLE, [1], more, [2]), True)


class ErrorsTest(unittest.TestCase):
    def test_small_program(self):
        one = Program(5, [0], [(0, "a", 1), (2, "a", 3)])
        for asked in product((-1, 0, 1, 2, 3, 5, 2 ** 80), repeat=3):
            missing = [place for place in asked if not 0 <= place < 5]
            unreached = [place for place in asked if place not in (0, 1)]
            if missing:
                self.assertEqual(raised(self, NoPlace, lambda: small_program(one, list(asked))).place, missing[0])
            elif unreached:
                self.assertEqual(raised(self, Unreached, lambda: small_program(one, list(asked))).place, unreached[0])

    def test_are_like_places(self):
        one, other = Program(3, [0], [(0, "a", 1)]), Program(4, [1], [(1, "a", 3)])
        ours, theirs = (0, 1, 2, 3, -1), (1, 3, 0, 2, 4)
        for places in product(ours, repeat=2):
            for others in product(theirs, repeat=2):
                missing = [p for p in places if not 0 <= p < 3] + [p for p in others if not 0 <= p < 4]
                unreached = [p for p in places if p not in (0, 1)] + [p for p in others if p not in (1, 3)]
                def call():
                    return are_like_places(one, list(places), other, list(others))
                if missing:
                    self.assertEqual(raised(self, NoPlace, call).place, missing[0])
                elif unreached:
                    self.assertEqual(raised(self, Unreached, call).place, unreached[0])
                else:
                    self.assertIs(call(), [(0, 1).index(p) for p in places] == [(1, 3).index(p) for p in others])


if __name__ == "__main__":
    unittest.main()
