"""[32] and [33]: Program; of [2] what a program and a reached place are; of [3] copies; of [4] the errors."""

import unittest
from itertools import product

from factflows.analyses import Analysis
from factflows.errors import NoPlace, Wrong
from factflows.joins import Joins
from factflows.programs import Program, line_program
from tests.helper import (Dice, asked_often, no_list_twice, odd_values, parity_program, slow_reached, some_program,
                          spoil, stays)

NAMES = ["b", "a", "ab"]


def loop():
    return Program(3, [0], [(2, "a", 1), (1, "b", 0), (0, "a", 1)])


def samples(many=120):
    dice = Dice(50)
    return [some_program(dice, NAMES) for _ in range(many)] + [loop(), parity_program(), Program(1, [0], [])]


ASKS = [
    lambda one: one.places, lambda one: one.begins(), lambda one: one.edges(), lambda one: one.statements(),
    lambda one: one.into(0), lambda one: one.into(1), lambda one: one.into(2), lambda one: one.out_of(0),
    lambda one: one.out_of(1), lambda one: one.out_of(2), lambda one: one.reached(), lambda one: one.leading([0]),
    lambda one: one.leading([1, 2]), lambda one: one.leading([]), lambda one: repr(one),
    lambda one: repr(one.with_edges([(2, "c", 2)])), lambda one: repr(one.without_edges([(0, "a", 1)])),
    lambda one: repr(one.with_begins([2])), lambda one: repr(one.turned(1)), lambda one: repr(one.renamed({"a": "b"})),
    lambda one: repr(one.moved([2, 0, 1])), lambda one: repr(one.kept([2, 0])), lambda one: repr(one + one),
    lambda one: one == loop(), lambda one: one == Program(3, [0], []),
]


class ExamplesTest(unittest.TestCase):
    def test_first(self):
        one = loop()
        self.assertEqual([one.reached(), one.into(1), one.leading([0])],
                         [[0, 1], [(0, "a"), (2, "a")], [0, 1, 2]])

    def test_second(self):
        told = [loop().kept([1, 0]), line_program(("a",)) + line_program(())]
        self.assertEqual(told, [Program(2, [0], [(0, "a", 1), (1, "b", 0)]), Program(3, [0, 2], [(0, "a", 1)])])
        self.assertEqual(repr(told), "[Program(2, [0], [(0, 'a', 1), (1, 'b', 0)]), Program(3, [0, 2], [(0, 'a', 1)])]")


class WrongTest(unittest.TestCase):
    def wrong(self, place, *given):
        with self.assertRaises(Wrong) as caught:
            stays(self, given, lambda: Program(*given))
        self.assertEqual(caught.exception.place, place)
        self.assertIs(type(caught.exception.place), int)

    def bad_places(self):
        return odd_values() + [0, -1, 2001, 2002, 10 ** 30, [1], (1,), "1", True, False]

    def bad_begins(self):
        """What is no list of places of three."""
        found = [thing for thing in odd_values()]
        return found + [[], (0,), {0}, {0: 0}, "0", 0, [3], [0, 3], [-1], [0, -1], [2 ** 80], [True], [0, False],
                        [None], ["0"], [0, "a"], [[0]], [(0,)], [0, [1]], range(2)]

    def bad_edges(self):
        """What is no list of edges of three places."""
        good = (0, "a", 1)
        edges = [
            (), (0,), (0, "a"), (0, "a", 1, 2), [0, "a", 1], "a", "0a1", None, True, 0, {0: "a"}, {good}, (good,), [good],
            (3, "a", 0), (0, "a", 3), (-1, "a", 0), (0, "a", -1), (2 ** 80, "a", 0), (0, "a", 2 ** 80),
            (True, "a", 0), (0, "a", False), (None, "a", 0), (0, "a", None), ("0", "a", 0), (0, "a", "0"),
            (0, "", 1), (0, "A", 1), (0, "toolongna", 1), (0, "a b", 1), (0, 1, 1), (0, None, 1), (0, b"a", 1),
            (0, ("a",), 1), (0, ["a"], 1), ([0], "a", 1), (0, "a", [1]), ("a", 0, 1), (0, 1, "a"),
        ]
        found = [thing for thing in odd_values()] + [(), (good,), {good}, {good: 1}, good, "a", 0]
        return found + [[edge] for edge in edges] + [[good, edge] for edge in edges] + [[edge, good] for edge in edges]

    def test_each_argument(self):
        for places in self.bad_places():
            self.wrong(0, places, [0], [])
        for begins in self.bad_begins():
            self.wrong(1, 3, begins, [])
        for edges in self.bad_edges():
            self.wrong(2, 3, [0], edges)

    def test_two_and_three_at_a_time(self):
        few = [0, True, 2001, None, "1", [1]]
        for places in few:
            for begins in self.bad_begins():
                self.wrong(0, places, begins, [])
                self.wrong(0, places, begins, None)
            for edges in self.bad_edges():
                self.wrong(0, places, [0], edges)
        for begins in ([], [3], [True], None, (0,)):
            for edges in self.bad_edges():
                self.wrong(1, 3, begins, edges)

    def test_the_numbers_hang_on_the_places(self):
        self.wrong(1, 1, [1], [])
        self.wrong(2, 1, [0], [(0, "a", 1)])
        self.wrong(2, 1, [0], [(1, "a", 0)])
        self.assertEqual(Program(2, [1], [(0, "a", 1), (1, "a", 0)]).reached(), [0, 1])

    def test_2000_and_2001_places(self):
        most = Program(2000, [1999], [(1999, "a", 0)])
        self.assertEqual((most.places, most.begins(), most.reached()), (2000, [1999], [0, 1999]))
        self.wrong(0, 2001, [0], [])
        self.wrong(1, 2000, [2000], [])
        self.wrong(2, 2000, [0], [(0, "a", 2000)])
        self.assertEqual(Program(1, [0], []).places, 1)

    def test_many_edges(self):
        edges = [(at % 50, "abcdefgh"[at % 8], at * 7 % 50) for at in range(4900)]
        self.assertEqual(Program(50, [0], edges).edges(), sorted(set(edges)))
        self.wrong(2, 50, [0], edges + [(0, "a", 50)])
        self.wrong(2, 50, [0], [(True, "a", 0)] + edges)


class NoPlaceTest(unittest.TestCase):
    def test_into_out_of_and_turned(self):
        for one in samples(10):
            odd = [thing for thing in odd_values() if type(thing) is not int]
            for place in [-1, -one.places, one.places, one.places + 1, 2 ** 80, -2 ** 80, *odd, "0", (0,), [0]]:
                for call in (one.into, one.out_of, one.turned):
                    with self.assertRaises(NoPlace) as caught:
                        stays(self, [one, place], lambda: call(place))
                    self.assertIs(caught.exception.place, place)


class TellsTest(unittest.TestCase):
    def test_what_it_was_made_of(self):
        dice = Dice(51)
        for _ in range(100):
            places = 1 + dice.below(6)
            begins = [dice.below(places) for _ in range(1 + dice.below(5))]
            edges = [(dice.below(places), dice.pick(NAMES), dice.below(places)) for _ in range(dice.below(20))]
            one = stays(self, [begins, edges], lambda: Program(places, begins, edges))
            self.assertEqual(one.places, places)
            self.assertIs(type(one.places), int)
            self.assertEqual(one.begins(), sorted(set(begins)))
            self.assertEqual(one.edges(), sorted(set(edges)))
            self.assertEqual(one.statements(), sorted({s for m, s, n in edges}))
            for place in range(places):
                self.assertEqual(one.into(place), sorted({(m, s) for m, s, n in edges if n == place}))
                self.assertEqual(one.out_of(place), sorted({(s, n) for m, s, n in edges if m == place}))

    def test_places_is_a_property(self):
        self.assertIsInstance(vars(Program)["places"], property)
        with self.assertRaises(AttributeError):
            loop().places = 4

    def test_reached_and_leading(self):
        dice = Dice(52)
        for one in samples():
            self.assertEqual(one.reached(), slow_reached(one))
            asked = [place for place in range(one.places) if dice.below(3) == 0]
            leading = set(asked)
            for _ in range(one.places):
                leading |= {m for m, s, n in one.edges() if n in leading}
            self.assertEqual(stays(self, [asked], lambda: one.leading(asked)), sorted(leading))
            self.assertEqual(one.leading(asked + asked), sorted(leading))
        self.assertEqual(loop().leading([]), [])
        self.assertEqual(loop().leading([2]), [2])

    def test_long_lines_are_reached(self):
        line = line_program(("a",) * 1999)
        self.assertEqual(line.reached(), list(range(2000)))
        self.assertEqual(line.leading([1999]), list(range(2000)))
        self.assertEqual(line.turned(1999).reached(), list(range(2000)))

    def test_shown(self):
        self.assertEqual(repr(loop()), "Program(3, [0], [(0, 'a', 1), (1, 'b', 0), (2, 'a', 1)])")
        self.assertEqual(repr(Program(2, [1, 0, 1], [])), "Program(2, [0, 1], [])")
        for one in samples():
            self.assertEqual(repr(one), f"Program({one.places}, {one.begins()}, {one.edges()})")
            self.assertEqual(eval(repr(one)), one)


class ChangedTest(unittest.TestCase):
    """What is made of programs."""

    def test_with_and_without(self):
        dice = Dice(53)
        for one in samples():
            more = [(dice.below(one.places), dice.pick(["a", "z"]), dice.below(one.places)) for _ in range(dice.below(5))]
            made = stays(self, [one, more], lambda: one.with_edges(more))
            self.assertEqual(made, Program(one.places, one.begins(), one.edges() + more))
            less = more + [edge for edge in one.edges() if dice.below(2)] + [(77, "a", 0), (0, "none", 0)]
            made = stays(self, [one, less], lambda: one.without_edges(less))
            self.assertEqual(made, Program(one.places, one.begins(), [e for e in one.edges() if e not in less]))
            begins = [dice.below(one.places) for _ in range(dice.below(3))]
            made = stays(self, [one, begins], lambda: one.with_begins(begins))
            self.assertEqual(made, Program(one.places, one.begins() + begins, one.edges()))
            self.assertEqual([one.with_edges([]), one.without_edges([]), one.with_begins([])], [one, one, one])
            self.assertEqual(one.without_edges(one.edges()).edges(), [])

    def test_turned(self):
        for one in samples():
            for place in range(one.places):
                made = one.turned(place)
                self.assertEqual(made.begins(), [place])
                self.assertEqual(made.places, one.places)
                self.assertEqual(made.edges(), sorted((n, s, m) for m, s, n in one.edges()))
                self.assertEqual(made.reached(), one.leading([place]))

    def test_renamed(self):
        for changes in ({}, {"a": "b", "b": "a"}, {"a": "b"}, {"a": "x", "b": "x", "ab": "x"}, {"q": "a"},
                        {"a": "b", "b": "c", "c": "a"}):
            for one in samples(40):
                made = stays(self, [one, changes], lambda: one.renamed(changes))
                wanted = sorted({(m, changes.get(s, s), n) for m, s, n in one.edges()})
                self.assertEqual((made.places, made.begins(), made.edges()), (one.places, one.begins(), wanted))

    def test_moved(self):
        dice = Dice(54)
        for one in samples():
            order = dice.shuffled(range(one.places))
            made = stays(self, [one, order], lambda: one.moved(order))
            self.assertEqual(made.begins(), sorted(order[place] for place in one.begins()))
            self.assertEqual(made.edges(), sorted((order[m], s, order[n]) for m, s, n in one.edges()))
            self.assertEqual(made.places, one.places)
        self.assertEqual(loop().moved([1, 2, 0]), Program(3, [1], [(0, "a", 2), (2, "b", 1), (1, "a", 2)]))

    def test_kept(self):
        dice = Dice(55)
        for one in samples():
            some = dice.shuffled(sorted({dice.pick(one.begins())} | {p for p in range(one.places) if dice.below(2)}))
            made = stays(self, [one, some], lambda: one.kept(some))
            number = {place: sum(1 for other in some if other < place) for place in some}
            self.assertEqual(made.places, len(some))
            self.assertEqual(made.begins(), sorted(number[place] for place in one.begins() if place in some))
            inner = [(m, s, n) for m, s, n in one.edges() if m in some and n in some]
            self.assertEqual(made.edges(), sorted((number[m], s, number[n]) for m, s, n in inner))
            self.assertEqual(one.kept(dice.shuffled(range(one.places))), one)

    def test_sum(self):
        programs = samples(40)
        for one, other in zip(programs, reversed(programs)):
            both = stays(self, [one, other], lambda: one + other)
            many = one.places
            self.assertEqual(both.places, many + other.places)
            self.assertEqual(both.begins(), one.begins() + [place + many for place in other.begins()])
            self.assertEqual(both.edges(), sorted(one.edges() + [(m + many, s, n + many) for m, s, n in other.edges()]))
        great = line_program(("a",) * 999) + line_program(("b",) * 999)
        self.assertEqual((great.places, great.begins()), (2000, [0, 1000]))
        for thing in (2, None, [(0, "a", 0)], "a", Analysis(Joins([[0]]), {})):
            with self.assertRaises(TypeError):
                loop() + thing
            with self.assertRaises(TypeError):
                thing + loop()

    def test_lines(self):
        for word in ((), ("a",), ("a", "a", "b"), ("z", "y"), ("a",) * 40):
            line = line_program(word)
            self.assertEqual(line.places, len(word) + 1)
            self.assertEqual(line.begins(), [0])
            self.assertEqual(line.edges(), [(i, word[i], i + 1) for i in range(len(word))])


class KeepsTest(unittest.TestCase):
    def test_asked_often(self):
        asked_often(self, loop, ASKS)
        asked_often(self, lambda: Program(4, [3, 0], [(3, "b", 3), (0, "a", 1), (0, "b", 1), (2, "a", 0)]), ASKS[:20])

    def test_what_is_handed_in_is_changed_behind_the_call(self):
        begins, edges = [0], [(2, "a", 1), (1, "b", 0), (0, "a", 1)]
        one = Program(3, begins, edges)
        spoil(begins)
        spoil(edges)
        asked_often(self, lambda: one, ASKS)
        self.assertEqual(one, loop())
        more, less, also = [(0, "c", 0)], [(2, "a", 1)], [1]
        made = [one.with_edges(more), one.without_edges(less), one.with_begins(also)]
        shown = repr(made)
        for thing in (more, less, also):
            spoil(thing)
        self.assertEqual(repr(made), shown)
        self.assertEqual(one, loop())

    def test_results_are_new(self):
        one = loop()
        for ask in ASKS:
            no_list_twice(self, ask(one))
            if isinstance(ask(one), list):
                self.assertIsNot(ask(one), ask(one))

    def test_results_are_of_the_listed_kinds(self):
        for one in samples(30):
            for rows in (one.edges(), one.into(0), one.out_of(0)):
                self.assertIs(type(rows), list)
                self.assertTrue(all(type(row) is tuple for row in rows))

    def test_the_order_and_how_often_mean_nothing(self):
        dice = Dice(56)
        for one in samples():
            begins = dice.shuffled(one.begins() + one.begins())
            edges = dice.shuffled(one.edges() + one.edges()[:3])
            again = Program(one.places, begins, edges)
            self.assertTrue(again == one)
            self.assertEqual(repr(again), repr(one))
            for place in range(one.places):
                self.assertEqual((again.into(place), again.out_of(place)), (one.into(place), one.out_of(place)))

    def test_equal_if_places_begins_and_edges_are(self):
        one = loop()
        self.assertIs(one == loop(), True)
        self.assertIs(one != loop(), False)
        edges = one.edges()
        unlike = [Program(4, [0], edges), Program(3, [1], edges), Program(3, [0, 1], edges), Program(3, [0], edges[1:]),
                  Program(3, [0], [*edges, (0, "a", 0)]), one.renamed({"b": "c"})]
        for thing in [*unlike, *odd_values(), repr(one), edges, (3, [0], edges), Analysis(Joins([[0]]), {})]:
            self.assertIs(one == thing, False)
            self.assertIs(thing == one, False)
            self.assertIs(one != thing, True)
        for ours, theirs in product(samples(15), repeat=2):
            self.assertIs(ours == theirs, repr(ours) == repr(theirs))

    def test_equality_does_not_ask_the_other_class(self):
        class Same:
            def __eq__(self, other):
                return True

        self.assertIs(loop() == Same(), False)


if __name__ == "__main__":
    unittest.main()
