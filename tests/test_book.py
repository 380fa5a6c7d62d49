"""[101]: the Book and its deeds."""

import unittest

from factflows.analyses import Analysis
from factflows.book import Book
from factflows.errors import (FlowError, Full, NoDeed, NoEntry, NoPlace, NoStatement, Nothing, Refused, Wrong)
from factflows.facts import facts_of
from factflows.joins import Joins, chain_joins
from factflows.programs import Program
from tests.helper import (Dice, asked_often, no_list_twice, odd_values, parity, raised, some_analysis, spoil, spoilt,
                          stays)

DEEDS = [("place",), ("begin", 1), ("free", 0), ("edge", 0, "flip", 1), ("cut", 0, "flip", 1)]


class Model:
    """A Book by other means: the places, the begin places and the edges behind each deed are kept."""

    def __init__(self, analysis):
        self.analysis = analysis
        self.past = [(1, frozenset([0]), frozenset())]
        self.log = []
        self.undone = []

    def program(self, many=None):
        places, begins, edges = self.past[-1 if many is None else many]
        return Program(places, sorted(begins), sorted(edges))

    def error(self, deed):
        """The name and the argument of the error that a deed is to raise, or None."""
        places, begins, edges = self.past[-1]
        if len(self.log) == 100:
            return ("Full", 100)
        if deed == ("place",):
            return ("Full", 40) if places == 40 else None
        for place in deed[1:]:
            if not isinstance(place, str) and place >= places:
                return ("NoPlace", place)
        if len(deed) == 4 and deed[2] not in self.analysis.statements():
            return ("NoStatement", deed[2])
        refused = {"begin": lambda: deed[1] in begins, "free": lambda: deed[1] not in begins or begins == {deed[1]},
                   "edge": lambda: deed[1:] in edges, "cut": lambda: deed[1:] not in edges}
        return ("Refused", deed) if refused[deed[0]]() else None

    def do(self, deed, *, again=False):
        before = facts_of(self.analysis, self.program())
        places, begins, edges = self.past[-1]
        if deed[0] == "place":
            places, before = places + 1, before
        elif deed[0] in ("begin", "free"):
            begins = begins ^ {deed[1]}
        else:
            edges = edges ^ {deed[1:]}
        self.past.append((places, begins, edges))
        self.log.append(deed)
        if not again:
            self.undone = []
        after = facts_of(self.analysis, self.program())
        before = before + [None] * (len(after) - len(before))
        return [(place, before[place], after[place]) for place in range(len(after)) if before[place] != after[place]]

    def back(self):
        self.past.pop()
        self.undone.append(self.log.pop())
        return self.undone[-1]

    def again(self):
        deed = self.undone.pop()
        self.do(deed, again=True)
        return deed


def some_deed(dice, places, edges):
    """A deed, now and then one that can not be done."""
    way = dice.below(16)
    if way < 3:
        return ("place",)
    if way < 6:
        return (dice.pick(["begin", "free"]), dice.below(places + 1))
    if way < 8 and edges:
        return ("cut",) + dice.pick(edges)
    kind = "cut" if way == 8 else "edge"
    return (kind, dice.below(places + dice.below(2)), dice.pick(["a", "b", "b", "a", "c"]), dice.below(places))


def state_of(book):
    """All that a Book tells, with what can be done again."""
    copy, undone = book.copied(), []
    while True:
        try:
            undone.append(copy.again())
        except Nothing:
            break
    return [book.log(), book.program(), book.facts(), book.analysis(), len(book), undone,
            [book.past(many) for many in range(len(book) + 1)]]


class ExamplesTest(unittest.TestCase):
    def test_as_written(self):
        book = Book(parity())
        deeds = [("place",), ("edge", 0, "flip", 1), ("edge", 1, "flip", 0), ("edge", 0, "flip", 0)]
        self.assertEqual([book.do(deed) for deed in deeds], [[], [(1, None, 1)], [], [(0, 0, 2), (1, 1, 2)]])


class DoTest(unittest.TestCase):
    def test_against_a_model(self):
        dice, counts = Dice(960), {}
        for _ in range(60):
            analysis = some_analysis(dice, ["a", "b"])
            book, model = Book(analysis), Model(analysis)
            for _ in range(60):
                deed = some_deed(dice, book.program().places, book.program().edges())
                way = dice.below(12)
                if way == 0 and model.log:
                    self.assertEqual(book.back(), model.back())
                elif way == 1 and model.undone:
                    self.assertEqual(book.again(), model.again())
                else:
                    self.check_deed(book, model, deed, counts)
                self.assertEqual((book.program(), book.log(), len(book)), (model.program(), model.log, len(model.log)))
                self.assertEqual(book.facts(), facts_of(analysis, model.program()))
        self.assertEqual(sorted(counts), ["NoPlace", "NoStatement", "Refused", "done"])
        self.assertGreater(min(counts.values()), 50)

    def check_deed(self, book, model, deed, counts):
        wanted = model.error(deed)
        if wanted is None:
            before = book.facts()
            told = stays(self, [deed], lambda: book.do(deed))
            self.assertEqual(told, model.do(deed))
            after = book.facts()
            before += [None] * (len(after) - len(before))
            self.assertEqual(told, [(p, old, new) for p, (old, new) in enumerate(zip(before, after)) if old != new])
            no_list_twice(self, told)
            spoil(told)
            name = "done"
        else:
            name, argument = wanted
            before = state_of(book)
            error = raised(self, {"Full": Full, "NoPlace": NoPlace, "NoStatement": NoStatement, "Refused": Refused}[name],
                           lambda: book.do(deed))
            self.assertEqual(list(vars(error).values()), [argument])
            self.assertEqual(state_of(book), before)
        counts[name] = counts.get(name, 0) + 1

    def test_at_first(self):
        book = Book(parity())
        self.assertEqual((book.program(), book.facts(), book.log(), len(book)), (Program(1, [0], []), [0], [], 0))
        self.assertEqual(book.analysis(), parity())
        self.assertEqual(book.past(0), Program(1, [0], []))

    def test_each_kind(self):
        book = Book(Analysis(chain_joins(3), {"up": [1, 2, 2]}))
        for deed, wanted, facts in [
                (("place",), [], [0, None]), (("edge", 0, "up", 1), [(1, None, 1)], [0, 1]), (("place",), [], [0, 1, None]),
                (("begin", 2), [(2, None, 0)], [0, 1, 0]), (("edge", 1, "up", 2), [(2, 0, 2)], [0, 1, 2]),
                (("free", 0), [(0, 0, None), (1, 1, None), (2, 2, 0)], [None, None, 0]),
                (("edge", 2, "up", 2), [(2, 0, 2)], [None, None, 2]), (("begin", 1), [(1, None, 0)], [None, 0, 2]),
                (("free", 2), [], [None, 0, 2]), (("cut", 1, "up", 2), [(2, 2, None)], [None, 0, None]),
                (("cut", 0, "up", 1), [], [None, 0, None]), (("begin", 0), [(0, None, 0)], [0, 0, None])]:
            self.assertEqual(book.do(deed), wanted)
            self.assertEqual(book.facts(), facts)
        self.assertEqual(book.program(), Program(3, [0, 1], [(2, "up", 2)]))

    def test_refused(self):
        book = Book(parity())
        book.do(("place",))
        book.do(("edge", 0, "even", 1))
        for deed in (("begin", 0), ("free", 1), ("free", 0), ("edge", 0, "even", 1), ("cut", 1, "even", 0),
                     ("cut", 0, "flip", 1), ("cut", 0, "even", 0)):
            self.assertIs(raised(self, Refused, lambda: book.do(deed)).deed, deed)
        book.do(("begin", 1))
        self.assertEqual(book.do(("free", 0)), [(0, 0, None)])
        self.assertEqual(raised(self, Refused, lambda: book.do(("free", 1))).deed, ("free", 1))

    def test_the_order_of_errors(self):
        book = Book(parity())
        book.do(("place",))
        for deed, kind, argument in [
                (("edge", 2, "none", 3), NoPlace, 2), (("edge", 0, "none", 3), NoPlace, 3), (("cut", 5, "none", 4), NoPlace, 5),
                (("cut", 0, "none", 2 ** 80), NoPlace, 2 ** 80), (("edge", 0, "none", 1), NoStatement, "none"),
                (("cut", 0, "none", 1), NoStatement, "none"), (("cut", 0, "flip", 1), Refused, ("cut", 0, "flip", 1)),
                (("begin", 2), NoPlace, 2), (("free", 2), NoPlace, 2), (("begin", 0), Refused, ("begin", 0))]:
            error = raised(self, kind, lambda: book.do(deed))
            self.assertEqual(list(vars(error).values()), [argument])
            self.assertEqual(book.log(), [("place",)])

    def test_what_is_no_deed(self):
        book = Book(parity())
        for deed in DEEDS[:3]:
            book.do(deed)
        before = state_of(book)
        for thing in odd_values():
            made = [thing, [thing], (thing,), ("begin", thing), ("edge", thing, "flip", 0), ("edge", 0, thing, 1),
                    ("edge", 0, "flip", thing), ("place", thing), (thing, 0), (thing, 0, "flip", 1)]
            for part in made:
                # Names, and numbers that are too great, are parts of deeds.
                deeds = (("begin", 2 ** 80), ("edge", 2 ** 80, "flip", 0), ("edge", 0, "flip", 2 ** 80),
                         ("edge", 0, "begin", 1), ("edge", 0, "a", 1), ("begin", 0))
                if repr(part) not in [repr(deed) for deed in deeds]:
                    raised(self, NoDeed, lambda: stays(self, [part], lambda: book.do(part)))
        for deed in DEEDS:
            for thing in (list(deed), deed + (0,), deed[:-1] if len(deed) > 1 else (), deed + ("flip",), {deed: 1},
                          (deed,), (deed[0].upper(),) + deed[1:], (deed[0] + " ",) + deed[1:], " ".join(map(str, deed)),
                          (deed[0].encode(),) + deed[1:]):
                raised(self, NoDeed, lambda: book.do(thing))
        for thing in (("begin", True), ("free", False), ("begin", -1), ("begin", "0"), ("begin", None), ("begin",),
                      ("edge", True, "flip", 1), ("edge", 0, "flip", True), ("edge", 0, "Flip", 1), ("edge", 0, "", 1),
                      ("edge", 0, "toolongna", 1), ("edge", 0, 1, 1), ("edge", 0, "flip"), ("edge", 0, 1, "flip"),
                      ("edge", -1, "flip", 0), ("cut", 0, "flip", -1), ("cut", (0, "flip", 1)), ("place", 0), ("place", 2),
                      ("", 0), (), ("back",), ("again",), ("facts",), ("edge", 0, ("flip",), 1)):
            raised(self, NoDeed, lambda: book.do(thing))
        self.assertEqual(state_of(book), before)

    def test_spoilt_deeds(self):
        dice, book, counts = Dice(961), Book(parity()), {True: 0, False: 0}
        book.do(("place",))
        for _ in range(1500):
            thing = spoilt(dice, dice.pick(DEEDS))
            is_right = (type(thing) is tuple and len(thing) > 0 and type(thing[0]) is str
                        and (thing == ("place",) or thing[0] in ("begin", "free") and len(thing) == 2 and is_place(thing[1])
                             or thing[0] in ("edge", "cut") and len(thing) == 4 and is_place(thing[1])
                             and is_place(thing[3]) and type(thing[2]) is str and thing[2].isalpha()
                             and thing[2].islower() and len(thing[2]) < 9))
            copy = book.copied()
            try:
                copy.do(thing)
                told = True
            except NoDeed:
                told = False
            except FlowError:
                told = True
            self.assertIs(told, is_right)
            counts[told] += 1
        self.assertGreater(min(counts.values()), 50)


def is_place(thing):
    return type(thing) is int and thing >= 0


class FullTest(unittest.TestCase):
    def full_book(self):
        book = Book(parity())
        for _ in range(50):
            book.do(("edge", 0, "flip", 0))
            book.do(("cut", 0, "flip", 0))
        return book

    def test_a_hundred_deeds(self):
        book = self.full_book()
        before = state_of(book)
        self.assertEqual(len(book), 100)
        for one in (book, book.copied(), book.copied().copied()):
            for deed in DEEDS + [("begin", 9), ("edge", 0, "none", 9), ("edge", 0, "none", 0), ("begin", 0)]:
                self.assertEqual(raised(self, Full, lambda: one.do(deed)).limit, 100)
            for thing in (None, ("place", 0), ["place"], "place", ("begin", True)):
                raised(self, NoDeed, lambda: one.do(thing))
            self.assertEqual(state_of(one), before)
        deed = book.back()
        self.assertEqual(deed, ("cut", 0, "flip", 0))
        self.assertEqual(book.again(), deed)
        self.assertEqual(raised(self, Full, lambda: book.do(("place",))).limit, 100)
        book.back()
        self.assertEqual(book.do(("place",)), [])
        self.assertEqual(len(book), 100)
        raised(self, Nothing, book.again)

    def test_forty_places(self):
        book = Book(parity())
        for at in range(39):
            self.assertEqual(book.do(("place",)), [])
        self.assertEqual(book.program().places, 40)
        for one in (book, book.copied()):
            self.assertEqual(raised(self, Full, lambda: one.do(("place",))).limit, 40)
            self.assertEqual(raised(self, NoPlace, lambda: one.do(("begin", 40))).place, 40)
        self.assertEqual(book.do(("edge", 0, "flip", 39)), [(39, None, 1)])
        book.back()
        book.back()
        self.assertEqual(book.do(("place",)), [])
        for _ in range(61):
            book.do(("begin", 1) if 1 not in book.program().begins() else ("free", 1))
        self.assertEqual(raised(self, Full, lambda: book.do(("place",))).limit, 100)


class BackAndAgainTest(unittest.TestCase):
    def long_book(self, dice):
        analysis = some_analysis(dice, ["a", "b"])
        book, programs = Book(analysis), [Program(1, [0], [])]
        while len(book) < 100:
            try:
                book.do(some_deed(dice, book.program().places, book.program().edges()))
                programs.append(book.program())
            except FlowError:
                pass
        return book, programs

    def test_through_long_logs(self):
        dice = Dice(962)
        for _ in range(4):
            book, programs = self.long_book(dice)
            log = book.log()
            for many in reversed(range(100)):
                self.assertEqual(book.back(), log[many])
                self.assertEqual((book.program(), book.log(), len(book)), (programs[many], log[:many], many))
                self.assertEqual(book.facts(), facts_of(book.analysis(), programs[many]))
                self.assertEqual(book.past(many), programs[many])
            raised(self, Nothing, book.back)
            for many in range(100):
                self.assertEqual(book.again(), log[many])
                self.assertEqual((book.program(), len(book)), (programs[many + 1], many + 1))
            raised(self, Nothing, book.again)

    def test_behind_a_refused_deed_and_a_new_one(self):
        book = Book(parity())
        raised(self, Nothing, book.back)
        raised(self, Nothing, book.again)
        for deed in (("place",), ("edge", 0, "flip", 1), ("begin", 1)):
            book.do(deed)
        raised(self, Nothing, book.again)
        self.assertEqual([book.back(), book.back()], [("begin", 1), ("edge", 0, "flip", 1)])
        for thing in (None, ("begin", 5), ("begin", 0), ("edge", 0, "none", 1)):
            with self.assertRaises(FlowError):
                book.do(thing)
        self.assertEqual(book.again(), ("edge", 0, "flip", 1))
        self.assertEqual(book.back(), ("edge", 0, "flip", 1))
        # The same deed, newly done: what was undone can not be done again any more.
        book.do(("edge", 0, "flip", 1))
        raised(self, Nothing, book.again)
        self.assertEqual(book.log(), [("place",), ("edge", 0, "flip", 1)])
        self.assertEqual(book.back(), ("edge", 0, "flip", 1))
        self.assertEqual(book.again(), ("edge", 0, "flip", 1))


class PastTest(unittest.TestCase):
    def test_the_programs(self):
        book = Book(parity())
        for deed in (("place",), ("edge", 0, "flip", 1), ("begin", 1), ("free", 0)):
            book.do(deed)
        edges = [(0, "flip", 1)]
        wanted = [Program(1, [0], []), Program(2, [0], []), Program(2, [0], edges), Program(2, [0, 1], edges),
                  Program(2, [1], edges)]
        self.assertEqual([book.past(many) for many in range(5)], wanted)
        for many in (5, 6, -1, 2 ** 80, -5):
            self.assertIs(raised(self, NoEntry, lambda: book.past(many)).at, many)
        for thing in odd_values():
            self.assertIs(raised(self, NoEntry, lambda: stays(self, [thing], lambda: book.past(thing))).at, thing)
        book.back()
        raised(self, NoEntry, lambda: book.past(4))
        self.assertEqual(book.past(3), wanted[3])
        self.assertEqual(Book(parity()).past(0), Program(1, [0], []))
        for thing in (1, True, False, None, "0"):
            self.assertIs(raised(self, NoEntry, lambda: Book(parity()).past(thing)).at, thing)


class CopiedTest(unittest.TestCase):
    def test_each_goes_on_by_itself(self):
        book = Book(parity())
        for deed in DEEDS[:4]:
            book.do(deed)
        book.back()
        copy = book.copied()
        self.assertIsInstance(copy, Book)
        self.assertEqual(state_of(copy), state_of(book))
        before = state_of(book)
        # What can be done again was copied, too, and each loses it by itself.
        self.assertEqual(copy.again(), ("edge", 0, "flip", 1))
        self.assertEqual(state_of(book), before)
        copy.back()
        copy.do(("place",))
        raised(self, Nothing, copy.again)
        self.assertEqual(state_of(book), before)
        before = state_of(copy)
        self.assertEqual(book.again(), ("edge", 0, "flip", 1))
        book.do(("edge", 1, "even", 1))
        book.back()
        self.assertEqual(state_of(copy), before)

    def test_of_a_changing_book(self):
        dice = Dice(963)
        book, copies = Book(parity()), []
        for _ in range(60):
            copies.append((book.copied(), state_of(book)))
            try:
                way = dice.below(5)
                if way == 0:
                    book.back()
                elif way == 1:
                    book.again()
                else:
                    book.do(some_deed(dice, book.program().places, book.program().edges()))
            except FlowError:
                pass
        for copy, state in copies:
            self.assertEqual(state_of(copy), state)


class EqualTest(unittest.TestCase):
    def test_analyses_and_logs(self):
        one, other = Book(parity()), Book(parity())
        self.assertTrue(one == other)
        one.do(("place",))
        self.assertFalse(one == other)
        other.do(("place",))
        self.assertTrue(one == other)
        one.do(("begin", 1))
        one.back()
        # What is undone does not count.
        self.assertTrue(one == other)
        self.assertFalse(one == Book(parity()))
        self.assertFalse(Book(parity()) == Book(parity().without(["flip"])))
        self.assertFalse(Book(parity()) == Book(Analysis(parity().joins, {}, begin=1)))
        # The same Program by another log is not the same.
        more = other.copied()
        more.do(("begin", 1))
        more.do(("free", 1))
        self.assertEqual(more.program(), other.program())
        self.assertFalse(more == other)
        for thing in odd_values() + [other.log(), other.program(), other.analysis()]:
            self.assertIs(other == thing, False)
            self.assertIs(other != thing, True)

    def test_length(self):
        book = Book(parity())
        for many, deed in enumerate(DEEDS[:2]):
            self.assertEqual(len(book), many)
            book.do(deed)
        self.assertEqual(len(book), 2)
        book.back()
        self.assertEqual(len(book), 1)


class ToldTest(unittest.TestCase):
    def test_what_was_told_stays(self):
        book = Book(parity())
        told = []
        for deed in DEEDS:
            told.append((book.program(), book.log(), book.facts(), book.past(len(book)), repr(book.program()), book.log()))
            book.do(deed)
        for at, (program, log, facts, past, shown, again) in enumerate(told):
            self.assertEqual((program, repr(program), log, past), (book.past(at), shown, DEEDS[:at], book.past(at)))
            self.assertEqual(facts, facts_of(parity(), program))
            spoil(log)
            spoil(facts)
        self.assertEqual(book.log(), DEEDS)

    def test_results_are_new(self):
        def make():
            book = Book(parity())
            for deed in DEEDS:
                book.do(deed)
            book.back()
            return book
        asked_often(self, make, [lambda book: book.log(), lambda book: book.facts(), lambda book: book.program().edges(),
                                 len, lambda book: book.past(2).begins(), lambda book: book.copied().log()])

    def test_refused_things_stay(self):
        book = Book(parity())
        for thing in (["place"], ("begin", [0]), {"place": 1}, ("edge", 0, ["flip"], 0)):
            raised(self, NoDeed, lambda: stays(self, [thing], lambda: book.do(thing)))


class WrongTest(unittest.TestCase):
    def test_of_other_than_an_analysis(self):
        for thing in odd_values() + [Book(parity()), Joins([[0]]), Program(1, [0], [])]:
            if not isinstance(thing, Analysis):
                self.assertEqual(raised(self, Wrong, lambda: stays(self, [thing], lambda: Book(thing))).place, 0)


if __name__ == "__main__":
    unittest.main()
