"""[104]: the Desk and its lines."""

import re
import unittest
from itertools import product

from factflows.analyses import Analysis
from factflows.book import Book
from factflows.desk import Desk
from factflows.errors import (Absent, FlowError, Full, NoCommand, NoPlace, NoStatement, Nothing, Refused, Unreached, Wrong)
from factflows.facts import facts_of
from factflows.follows import is_within
from factflows.joins import Joins
from factflows.notation import read_deed, show_log, show_program, show_word
from factflows.paths import lost, path_values, word_to
from factflows.programs import Program
from factflows.small import small_program
from tests.helper import Dice, known_example, odd_values, parity, raised, some_analysis, stays
from tests.test_book import some_deed
from tests.test_notation import DEED, FORTY, MORE, NUMBER, spoilt_text

QUESTION = (f"back|again|log|program|facts|lost|paths {NUMBER}|(?:word|within) {NUMBER} {NUMBER}|small(?: {NUMBER})+")


def row(parts):
    return " ".join("-" if part is None else str(part) for part in parts)


def rows(tuples):
    return " / ".join(row(parts) for parts in tuples) or "none"


def lines(text):
    return " / ".join(text.split("\n")[:-1]) or "none"


def slow_question(book, words):
    """The answer to a question, from what the document says is asked."""
    analysis, program = book.analysis(), book.program()
    kind, numbers = words[0], [int(word) for word in words[1:]]
    places = numbers[:1] if kind == "word" else numbers
    for place in places:
        if place >= program.places:
            raise NoPlace(place)
    if kind == "word" and numbers[1] >= len(analysis):
        raise Absent(numbers[1])
    if kind == "paths":
        return row(path_values(analysis, program, numbers[0])) or "none"
    if kind == "word":
        word = word_to(analysis, program, *numbers)
        return "none" if word is None else show_word(word)
    if kind == "within":
        return "yes" if is_within(program, numbers[0], program, numbers[1]) else "no"
    if kind == "small":
        small, there = small_program(program, numbers)
        return lines(show_program(small)) + " : " + row(there)
    told = {"log": lambda: lines(show_log(book)), "program": lambda: lines(show_program(program)),
            "facts": lambda: row(facts_of(analysis, program)), "lost": lambda: rows(lost(analysis, program))}
    return told[kind]()


def slow_execute(book, line):
    """The answer to any value, done to a Book."""
    if not isinstance(line, str) or not re.fullmatch(f"{DEED}|{QUESTION}", line):
        raise NoCommand()
    if re.fullmatch(DEED, line):
        return rows(book.do(read_deed(line)))
    if line in ("back", "again"):
        return row(book.back() if line == "back" else book.again())
    return slow_question(book, line.split(" "))


def outcome(call):
    """What a call returns, or which error it raises."""
    try:
        return call()
    except FlowError as error:
        return type(error).__name__, sorted(vars(error).items())


def some_line(dice, book):
    places, values = book.program().places, len(book.analysis())
    place, there = dice.below(places + dice.below(2)), dice.below(places + dice.below(2))
    way = dice.below(20)
    if way < 9:
        return row(some_deed(dice, places, book.program().edges()))
    if way == 19:
        return "small " + row(dice.below(places) for _ in range(1 + dice.below(3)))
    return ["back", "again", "log", "program", "facts", "lost", f"paths {place}", f"word {place} {dice.below(values + 1)}",
            f"within {place} {there}", f"small {place} {there}"][way - 9]


class ExamplesTest(unittest.TestCase):
    def test_as_written(self):
        desk = Desk(parity())
        asked = ["place", "edge 0 flip 1", "edge 0 flip 0", "facts", "word 1 0", "back", "within 1 0"]
        self.assertEqual([desk.execute(line) for line in asked],
                         ['none', '1 - 1', '0 0 2 / 1 1 2', '2 2', 'flip flip', 'edge 0 flip 0', 'no'])


class ExecuteTest(unittest.TestCase):
    def test_against_a_slow_reading(self):
        dice, kinds, errors = Dice(980), {}, {}
        for at in range(300):
            analysis = known_example().renamed({"t": "c"}) if at % 2 else some_analysis(dice, ["a", "b"])
            desk, book = Desk(analysis), Book(analysis)
            for _ in range(50):
                line = some_line(dice, book)
                wanted = outcome(lambda: slow_execute(book, line))
                told = outcome(lambda: desk.execute(line))
                self.assertEqual(told, wanted, line)
                if isinstance(told, str):
                    kinds.setdefault(line.split(" ")[0], set()).add(told)
                else:
                    errors[told[0]] = errors.get(told[0], 0) + 1
        self.assertEqual(sorted(kinds), sorted("place begin free edge cut back again log program facts lost paths word within "
                                               "small".split(" ")))
        for kind, least in [("lost", 4), ("paths", 5), ("word", 5), ("within", 2), ("small", 20), ("facts", 20), ("log", 20)]:
            self.assertGreaterEqual(len(kinds[kind]), least)
        for kind in ("lost", "paths", "word"):
            self.assertIn("none", kinds[kind])
        self.assertIn("-", kinds["word"])
        for name in ("NoPlace", "NoStatement", "Refused", "Nothing", "Absent", "Unreached"):
            self.assertGreater(errors[name], 5)

    def test_each_form(self):
        desk = Desk(parity())
        for line, wanted in [
                ("log", "none"), ("program", "places 1 / begins 0"), ("facts", "0"), ("paths 0", "0"), ("word 0 0", "-"),
                ("word 0 1", "none"), ("lost", "none"), ("within 0 0", "yes"), ("small 0", "places 1 / begins 0 : 0"),
                ("small 0 0", "places 1 / begins 0 : 0 0"), ("place", "none"), ("place", "none"), ("facts", "0 - -"),
                ("paths 1", "none"), ("word 1 0", "none"), ("edge 0 flip 1", "1 - 1"), ("begin 2", "2 - 0"),
                ("edge 0 even 1", "1 1 2"), ("edge 1 even 2", "2 0 2"), ("lost", "2 2 0"), ("paths 1", "0 1"),
                ("word 2 0", "-"), ("word 1 1", "flip"), ("word 1 2", "none"), ("free 0", "0 0 - / 1 2 - / 2 2 0"),
                ("log", "place / place / edge 0 flip 1 / begin 2 / edge 0 even 1 / edge 1 even 2 / free 0"),
                ("back", "free 0"), ("program", "places 3 / begins 0 2 / edge 0 even 1 / edge 0 flip 1 / edge 1 even 2"),
                ("again", "free 0"), ("back", "free 0"), ("within 1 2", "no"), ("within 2 0", "no"), ("within 0 2", "yes"),
                ("small 1 1", "places 2 / begins 0 / edge 0 even 1 / edge 0 flip 1 : 1 1"),
                ("small 2", "places 3 / begins 0 2 / edge 0 even 1 / edge 0 flip 1 / edge 1 even 2 : 2"),
                ("cut 1 even 2", "2 2 0"), ("within 2 0", "yes"),
                ("within 0 2", "yes"), ("small 2 0", "places 1 / begins 0 : 0 0"), ("lost", "none")]:
            self.assertEqual(stays(self, [line], lambda: desk.execute(line)), wanted, line)
            self.assertIs(type(desk.execute("facts")), str)

    def test_what_is_refused_changes_nothing(self):
        dice = Dice(981)
        for _ in range(30):
            analysis = some_analysis(dice, ["a", "b"])
            desk, book = Desk(analysis), Book(analysis)
            for _ in range(40):
                line = some_line(dice, book)
                before = self.state(desk)
                if isinstance(outcome(lambda: desk.execute(line)), tuple):
                    self.assertEqual(self.state(desk), before)
                else:
                    outcome(lambda: slow_execute(book, line))

    def state(self, desk):
        """What a Desk tells of its Book, and what it does again; the Desk is as before in the end."""
        told, done = [desk.execute(line) for line in ("log", "program", "facts")], []
        while True:
            answer = outcome(lambda: desk.execute("again"))
            if not isinstance(answer, str):
                break
            done.append(answer)
        for deed in reversed(done):
            self.assertEqual(desk.execute("back"), deed)
        return told, done

    def test_answers_stay_the_same(self):
        desk = Desk(parity())
        for line in ("place", "edge 0 flip 1", "edge 1 even 1"):
            desk.execute(line)
        for line in ("log", "program", "facts", "lost", "paths 1", "word 1 1", "within 0 1", "small 1 0"):
            self.assertEqual(desk.execute(line), desk.execute(line))


class NoCommandTest(unittest.TestCase):
    def desk(self):
        desk = Desk(parity())
        for line in ("place", "edge 0 flip 1", "back"):
            desk.execute(line)
        return desk

    def test_other_values(self):
        desk = self.desk()
        for thing in odd_values() + [b"facts", ["facts"], ("facts",), ("place",), ["place"], Desk(parity()), Book(parity())]:
            raised(self, NoCommand, lambda: stays(self, [thing], lambda: desk.execute(thing)))
        self.assertEqual([desk.execute(line) for line in ("log", "again")], ["place", "edge 0 flip 1"])

    def test_lines_that_are_none(self):
        desk = self.desk()
        good = ["place", "begin 1", "free 0", "edge 0 flip 1", "cut 0 flip 1", "back", "again", "log", "program", "facts", "lost",
                "paths 0", "word 0 0", "within 0 0", "small 0", "small 0 1"]
        for line in good:
            words = line.split(" ")
            bad = [line + " ", " " + line, line + "\n", line + "\n\n", line.upper(), line.title(), line + "  ", line + " x", line + " -",
                   line + " 01", line + " -1", line + "s", line[1:], line.replace(" ", "  ", 1) if " " in line else line + " 0 ",
                   line.replace(" ", "\n", 1) if " " in line else "\n" + line, line + " / " + line, line + "," + "0"]
            if words[0] != "small":
                bad.append(line + " 0")
                bad.append(" ".join(words[:-1]))
            if words[0] in ("small", "word", "within", "paths", "begin"):
                for number in ("00", "01", "+1", "1_0", "1.0", "x", "", "-0", MORE, "1" * 5000, "True", "None", "0x1"):
                    bad.append(" ".join(words[:-1] + [number]))
            for thing in bad:
                with self.subTest(thing[:99]):
                    raised(self, NoCommand, lambda: desk.execute(thing))
        for thing in ("", "\n", " ", "-", "0", "small", "small ", "paths", "word", "word 0", "within", "within 0", "within 0 0 0",
                      "word 0 0 0", "paths 0 0", "edge 0 1", "begin", "place 0", "undo", "do place", "copied", "past 0", "facts 0",
                      "log 1", "back 1", "yes", "none", "small 0 a", "small a", "small " + "0 " * 9999, "edge 0 flip", "edge 0 Flip 1"):
            with self.subTest(thing[:99]):
                raised(self, NoCommand, lambda: desk.execute(thing))
        self.assertEqual([desk.execute(line) for line in ("log", "again")], ["place", "edge 0 flip 1"])

    def test_spoilt_lines(self):
        dice, counts = Dice(982), {True: 0, False: 0}
        desk, book = Desk(parity()), Book(parity())
        for _ in range(1500):
            line = spoilt_text(dice, some_line(dice, book))
            wanted = outcome(lambda: slow_execute(book, line))
            self.assertEqual(outcome(lambda: desk.execute(line)), wanted, line)
            counts[wanted == ("NoCommand", [])] += 1
        self.assertGreater(min(counts.values()), 150)


class ErrorsTest(unittest.TestCase):
    def test_questions(self):
        desk = Desk(parity())
        for line in ("place", "place", "edge 0 flip 1"):
            desk.execute(line)
        for line, kind, argument in [
                ("paths 3", NoPlace, 3), ("paths " + FORTY, NoPlace, int(FORTY)), ("word 3 9", NoPlace, 3), ("word 2 3", Absent, 3),
                ("word 0 " + FORTY, Absent, int(FORTY)), ("word " + FORTY + " " + FORTY, NoPlace, int(FORTY)),
                ("within 3 4", NoPlace, 3), ("within 2 4", NoPlace, 4), ("within 2 0", Unreached, 2), ("within 0 2", Unreached, 2),
                ("within 2 2", Unreached, 2), ("small 2 3", NoPlace, 3), ("small 0 2 1", Unreached, 2), ("small 2", Unreached, 2),
                ("small 5 4", NoPlace, 5), ("small 0 0 9 2", NoPlace, 9), ("small 2 " + FORTY, NoPlace, int(FORTY))]:
            error = raised(self, kind, lambda: desk.execute(line))
            self.assertEqual(list(vars(error).values()), [argument], line)
        # A place that is not reached has no paths, and that is no error.
        self.assertEqual([desk.execute(line) for line in ("paths 2", "word 2 0", "small 0 1")],
                         ["none", "none", "places 2 / begins 0 / edge 0 flip 1 : 0 1"])

    def test_deeds(self):
        desk = Desk(parity())
        raised(self, Nothing, lambda: desk.execute("back"))
        raised(self, Nothing, lambda: desk.execute("again"))
        for line, kind, argument in [
                ("begin 1", NoPlace, 1), ("begin 0", Refused, ("begin", 0)), ("free 0", Refused, ("free", 0)),
                ("edge 1 none 2", NoPlace, 1), ("edge 0 none 0", NoStatement, "none"), ("cut 0 none 0", NoStatement, "none"),
                ("cut 0 flip 0", Refused, ("cut", 0, "flip", 0)), ("free " + FORTY, NoPlace, int(FORTY))]:
            error = raised(self, kind, lambda: desk.execute(line))
            self.assertEqual(list(vars(error).values()), [argument], line)
        self.assertEqual(desk.execute("log"), "none")

    def test_full(self):
        desk = Desk(parity())
        for _ in range(39):
            self.assertEqual(desk.execute("place"), "none")
        self.assertEqual(raised(self, Full, lambda: desk.execute("place")).limit, 40)
        for _ in range(30):
            desk.execute("edge 0 flip 39")
            desk.execute("cut 0 flip 39")
        self.assertEqual(desk.execute("begin 39"), "39 - 0")
        for line in ("place", "begin 39", "begin 99", "edge 0 none 99"):
            self.assertEqual(raised(self, Full, lambda: desk.execute(line)).limit, 100)
        raised(self, NoCommand, lambda: desk.execute("begin x"))
        self.assertEqual(desk.execute("back"), "begin 39")
        self.assertEqual(len(desk.execute("log").split(" / ")), 99)


class WrongTest(unittest.TestCase):
    def test_of_other_than_an_analysis(self):
        for thing in odd_values() + [Book(parity()), Joins([[0]]), Program(1, [0], [])]:
            if not isinstance(thing, Analysis):
                self.assertEqual(raised(self, Wrong, lambda: stays(self, [thing], lambda: Desk(thing))).place, 0)

    def test_each_goes_on_by_itself(self):
        one, other = Desk(parity()), Desk(parity())
        for number, desk in product(range(3), (one, other)):
            desk.execute("place")
            self.assertEqual(desk.execute("facts"), " ".join(["0"] + ["-"] * (number + 1)))


if __name__ == "__main__":
    unittest.main()
