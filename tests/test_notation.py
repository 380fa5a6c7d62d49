"""[102] and [103]: texts of words, joins, analyses, programs, deeds and logs, there and back."""

import re
import unittest

from factflows.analyses import Analysis
from factflows.book import Book
from factflows.errors import FlowError, NoEntry, NoText
from factflows.joins import Joins, all_joins, chain_joins, union_joins
from factflows.notation import (read_analysis, read_deed, read_joins, read_log, read_program, read_word, show_analysis,
                                show_deed, show_joins, show_log, show_program, show_word)
from factflows.programs import Program
from tests.helper import (Dice, odd_values, parity, parity_program, raised, some_analysis, some_program, some_rows, stays)
from tests.test_book import some_deed

NUMBER = "(?:0|[1-9][0-9]{0,39})"
ROW = f"{NUMBER}(?: {NUMBER})*"
NAME = "[a-z]{1,8}"
DEED = f"place|(?:begin|free) {NUMBER}|(?:edge|cut) {NUMBER} {NAME} {NUMBER}"
FORTY, MORE = "1" + "0" * 39, "1" + "0" * 40


def row_in(text):
    return [int(part) for part in text.split(" ")]


def made(kind, *parts, **more):
    """What a class makes of some arguments, or None if it raises an error."""
    try:
        return kind(*parts, **more)
    except FlowError:
        return None


# Readers by other means: each returns None where nothing has the text.


def slow_word(text):
    if text == "-":
        return ()
    return tuple(text.split(" ")) if re.fullmatch(f"{NAME}(?: {NAME})*", text) else None


def slow_joins(text):
    if not re.fullmatch(f"{ROW}(?: / {ROW})*", text):
        return None
    return made(Joins, [row_in(row) for row in text.split(" / ")])


def slow_analysis(text):
    match = re.fullmatch(f"joins ([0-9 /]*)\nbegin ({NUMBER})\n((?:map {NAME} {ROW}\n)*)", text)
    joins = slow_joins(match[1]) if match else None
    if joins is None:
        return None
    maps = [line.split(" ", 2)[1:] for line in match[3].split("\n")[:-1]]
    names = [name for name, _ in maps]
    if names != sorted(set(names)):
        return None
    return made(Analysis, joins, {name: row_in(row) for name, row in maps}, begin=int(match[2]))


def slow_program(text):
    match = re.fullmatch(f"places ({NUMBER})\nbegins ({ROW})\n((?:edge {NUMBER} {NAME} {NUMBER}\n)*)", text)
    if not match:
        return None
    begins, edges = row_in(match[2]), [line.split(" ")[1:] for line in match[3].split("\n")[:-1]]
    edges = [(int(m), s, int(n)) for m, s, n in edges]
    if begins != sorted(set(begins)) or edges != sorted(set(edges)):
        return None
    return made(Program, int(match[1]), begins, edges)


def slow_deed(text):
    if not re.fullmatch(DEED, text):
        return None
    return tuple(int(part) if part.isdigit() else part for part in text.split(" "))


def slow_log(analysis, text):
    """The Book with the log, or the index of the first line that is not right."""
    lines, book = text.split("\n"), Book(analysis)
    for at, line in enumerate(lines[:-1]):
        deed = slow_deed(line)
        if deed is None:
            return at
        try:
            book.do(deed)
        except FlowError:
            return at
    return book if lines[-1] == "" else len(lines) - 1


def spoilt_text(dice, text):
    """A text with one sign or one line out, more, twice, exchanged or another one."""
    at, way = dice.below(len(text) + 1), dice.below(12)
    sign = dice.pick("0 1 2 9 a b - / _ + . A E _ p m e".split(" ") + [" ", " ", "\n", "\n", "00", "  ", " / ", FORTY, MORE])
    lines = text.split("\n")
    line, there = dice.below(len(lines)), dice.below(len(lines))
    if way < 3:
        return text[:at] + text[at + 1:]
    if way < 5:
        return text[:at] + sign + text[at:]
    if way < 7:
        return text[:at] + sign + text[at + 1:]
    if way == 7:
        return text[:at] + text[at:at + 1] * 2 + text[at + 1:]
    if way == 8:
        return "\n".join(lines[:line] + lines[line + 1:])
    if way == 9:
        return "\n".join(lines[:line + 1] + lines[line:])
    if way == 10:
        lines[line], lines[there] = lines[there], lines[line]
        return "\n".join(lines)
    words = text.split(" ")
    word = dice.below(len(words))
    words[word] = dice.pick(["0" + words[word], words[word].upper(), words[word] * 41, "-", "", FORTY, MORE])
    return " ".join(words)


def some_book(dice, analysis):
    book = Book(analysis)
    for _ in range(dice.below(25)):
        try:
            book.do(some_deed(dice, book.program().places, book.program().edges()))
        except FlowError:
            pass
    return book


def some_word(dice):
    names = ["a", "b", "flip", "abcdefgh", "zz", "place", "edge"]
    return tuple(dice.pick(names) for _ in range(dice.below(6)))


def some_deeds(dice):
    numbers = [0, 1, 7, 10, 39, 40, 2 ** 40, int(FORTY), 10 ** 40 - 1]
    m, n, s = dice.pick(numbers), dice.pick(numbers), dice.pick(["a", "flip", "abcdefgh", "edge", "place"])
    return dice.pick([("place",), ("begin", m), ("free", m), ("edge", m, s, n), ("cut", m, s, n)])


class ExamplesTest(unittest.TestCase):
    def test_as_written(self):
        self.assertEqual(show_analysis(parity()),
                         'joins 0 2 2 / 2 1 2 / 2 2 2\nbegin 0\nmap even 0 0 2\nmap flip 1 0 2\n')


class ShowTest(unittest.TestCase):
    def test_texts(self):
        self.assertEqual([show_word(word) for word in [(), ("a",), ("flip", "a", "flip")]], ["-", "a", "flip a flip"])
        self.assertEqual([show_joins(joins) for joins in (Joins([[0]]), chain_joins(3))], ["0", "0 1 2 / 1 1 2 / 2 2 2"])
        self.assertEqual(show_analysis(Analysis(chain_joins(2), {"b": [1, 1], "a": [0, 1]}, begin=1)),
                         "joins 0 1 / 1 1\nbegin 1\nmap a 0 1\nmap b 1 1\n")
        self.assertEqual(show_analysis(Analysis(Joins([[0]]), {})), "joins 0\nbegin 0\n")
        self.assertEqual(show_program(Program(12, [10, 9, 0], [(9, "b", 10), (10, "a", 9), (9, "a", 11)])),
                         "places 12\nbegins 0 9 10\nedge 9 a 11\nedge 9 b 10\nedge 10 a 9\n")
        self.assertEqual(show_program(Program(1, [0], [])), "places 1\nbegins 0\n")
        deeds = [("place",), ("begin", 3), ("free", 10), ("edge", 0, "flip", 12), ("cut", 7, "a", 0)]
        self.assertEqual([show_deed(deed) for deed in deeds],
                         ["place", "begin 3", "free 10", "edge 0 flip 12", "cut 7 a 0"])
        book = Book(parity())
        self.assertEqual(show_log(book), "")
        for deed in (("place",), ("edge", 0, "flip", 1), ("begin", 1)):
            book.do(deed)
        self.assertEqual(show_log(book), "place\nedge 0 flip 1\nbegin 1\n")
        book.back()
        self.assertEqual(show_log(book), "place\nedge 0 flip 1\n")


class ThereAndBackTest(unittest.TestCase):
    def check(self, thing, show, read):
        text = show(thing)
        self.assertIs(type(text), str)
        told = read(text)
        self.assertEqual(told, thing)
        self.assertIs(type(told), type(thing))
        self.assertEqual(show(told), text)

    def test_all_kinds(self):
        dice = Dice(970)
        for _ in range(200):
            self.check(some_word(dice), show_word, read_word)
            self.check(Joins(some_rows(dice)), show_joins, read_joins)
            analysis = some_analysis(dice, ["b", "a", "ab"][:dice.below(4)])
            self.check(analysis, show_analysis, read_analysis)
            self.check(some_program(dice, ["b", "a", "abcdefgh"], 14, 30), show_program, read_program)
            self.check(some_deeds(dice), show_deed, read_deed)
            self.check(some_book(dice, analysis), show_log, lambda text: read_log(analysis, text))

    def test_all_small_joins(self):
        for many in (1, 2, 3):
            for joins in all_joins(many):
                self.check(joins, show_joins, read_joins)

    def test_great_ones(self):
        self.check(("abcdefgh",) * 4000, show_word, read_word)
        self.check(chain_joins(64), show_joins, read_joins)
        self.check(union_joins(6), show_joins, read_joins)
        maps = {name: list(range(64)) for name in "abcdef"}
        self.check(Analysis(chain_joins(64), maps, begin=63), show_analysis, read_analysis)
        edges = [(at, "a", (at * 7) % 2000) for at in range(2000)]
        self.check(Program(2000, list(range(0, 2000, 3)), edges), show_program, read_program)
        for number in (int(FORTY), 10 ** 40 - 1, 0):
            self.check(("edge", number, "a", number), show_deed, read_deed)

    def test_what_was_undone_is_no_part_of_the_text(self):
        book = Book(parity())
        book.do(("place",))
        book.do(("begin", 1))
        book.back()
        told = read_log(parity(), show_log(book))
        self.assertEqual((told, len(told), told.program()), (book, 1, book.program()))
        with self.assertRaises(FlowError):
            told.again()


class SpoiltTest(unittest.TestCase):
    def check(self, read, slow, text):
        wanted = slow(text)
        if wanted is None:
            self.assertEqual(vars(raised(self, NoText, lambda: read(text))), {})
            return False
        told = read(text)
        self.assertEqual(told, wanted)
        self.assertIs(type(told), type(wanted))
        return True

    def trial(self, seed, many, draw, show, read, slow, least):
        dice, counts = Dice(seed), {True: 0, False: 0}
        for _ in range(many):
            text = show(draw(dice))
            self.assertIs(self.check(read, slow, text), True)
            for _ in range(8):
                other = spoilt_text(dice, text)
                counts[self.check(read, slow, other)] += 1
                counts[self.check(read, slow, spoilt_text(dice, other))] += 1
        self.assertGreater(counts[False], many * 6)
        self.assertGreater(counts[True], least)

    def test_words(self):
        self.trial(971, 300, some_word, show_word, read_word, slow_word, 300)

    def test_joins(self):
        self.trial(972, 300, lambda dice: Joins(some_rows(dice, 5)), show_joins, read_joins, slow_joins, 5)

    def test_analyses(self):
        self.trial(973, 300, lambda dice: some_analysis(dice, ["b", "a"], 5), show_analysis, read_analysis, slow_analysis, 100)

    def test_programs(self):
        self.trial(974, 300, lambda dice: some_program(dice, ["b", "a"], 12, 12), show_program, read_program, slow_program,
                   100)

    def test_deeds(self):
        self.trial(975, 300, some_deeds, show_deed, read_deed, slow_deed, 300)

    def test_logs(self):
        dice, counts = Dice(976), {True: 0, False: 0}
        for _ in range(150):
            analysis = some_analysis(dice, ["a", "b"])
            text = show_log(some_book(dice, analysis))
            for _ in range(8):
                text = spoilt_text(dice, text) if dice.below(4) else text
                wanted = slow_log(analysis, text)
                if isinstance(wanted, Book):
                    self.assertEqual(read_log(analysis, text), wanted)
                else:
                    self.assertEqual(raised(self, NoEntry, lambda: read_log(analysis, text)).at, wanted)
                counts[isinstance(wanted, Book)] += 1
        self.assertGreater(min(counts.values()), 100)


class NoTextTest(unittest.TestCase):
    READERS = [read_word, read_joins, read_analysis, read_program, read_deed]

    def refused(self, read, texts):
        for text in texts:
            with self.subTest(text if len(text) < 99 else text[:99]):
                self.assertEqual(vars(raised(self, NoText, lambda: read(text))), {})

    def test_other_values(self):
        for thing in odd_values():
            for read in self.READERS + [lambda text: read_log(parity(), text)]:
                if not isinstance(thing, str):
                    raised(self, NoText, lambda: stays(self, [thing], lambda: read(thing)))
        for thing in (b"-", b"0", ["a"], ("a",), ("place",), ["place"], Joins([[0]]), parity(), b"place\n", 0, None):
            for read in self.READERS + [lambda text: read_log(parity(), text)]:
                raised(self, NoText, lambda: read(thing))

    def test_the_empty_text(self):
        for read in self.READERS:
            self.refused(read, ["", "\n", " ", "  ", "\n\n"])

    def test_words(self):
        self.refused(read_word, ["--", "- -", " -", "- ", "-\n", "a ", " a", "a  b", "A", "a B", "abcdefghi", "a-b", "a1", "0",
                                 "a\n", "a\nb", "- a", "a -", "a,b", "a b ", "('a',)"])
        self.assertEqual([read_word(text) for text in ("-", "abcdefgh", "a a", "place")],
                         [(), ("abcdefgh",), ("a", "a"), ("place",)])

    def test_joins(self):
        wide = " / ".join([" ".join(str(max(u, v)) for v in range(65)) for u in range(65)])
        self.refused(read_joins, ["1", "0 0", "0 / 0", "0 1 / 1 1 /", "0 1 / 1 1 / ", "/ 0 1 / 1 1", "0 1/1 1", "0 1 /1 1",
                                  "0 1  / 1 1", "0 1 /  1 1", "00", "0 01 / 1 1", "0 1 / 1 2", "0 1 / 0 1", "0 0 / 1 1",
                                  "0 1 / 1 0", "1 1 / 1 1", "-1", "+0", "0\n", "0 1 / 1 1\n", "0 1\n1 1", "0 1 // 1 1", "0 1 1 1",
                                  "0 1 / 1", "0 / 1 1", "a", "0 " + FORTY + " / 1 1", "0 " + MORE + " / 1 1", "9" * 5000,
                                  "0 " * 20000, "0 / " * 20000 + "0", wide, "0x0", "0_0", "0.0", "[[0]]",
                                  # (0 | 1) | 2 is not 0 | (1 | 2)
                                  "0 0 2 / 0 1 1 / 2 1 2"])
        self.assertEqual(read_joins("0"), Joins([[0]]))

    def test_analyses(self):
        right = show_analysis(parity())
        self.assertEqual(read_analysis(right), parity())
        lines = right.split("\n")[:-1]
        for at in range(4):
            rest = lines[:at] + lines[at + 1:]
            self.refused(read_analysis, ["".join(line + "\n" for line in lines[:at + 1] + lines[at:])])
            if at < 2:
                self.refused(read_analysis, ["".join(line + "\n" for line in rest)])
            else:
                self.assertEqual(len(read_analysis("".join(line + "\n" for line in rest)).statements()), 1)
        many = "".join(f"map {name} 0\n" for name in "abcdefg")
        self.refused(read_analysis, [
            right[:-1], right + "\n", "\n" + right, right + " ", " " + right, right.replace("\n", "\n\n"),
            right.replace("even", "Even"), right.replace("even", "abcdefghi"), right.replace("even", "flip"),
            right.replace("even", "zero"), right.replace("map even 0 0 2", "map even 0 0"), right.replace("map even", "map even "),
            right.replace("map even 0 0 2", "map even 0 0 2 2"), right.replace("map even 0 0 2", "map even 0 0 3"),
            right.replace("map even 0 0 2", "map even"), right.replace("map even 0 0 2", "map even "),
            # These do not rise.
            right.replace("map even 0 0 2", "map even 0 0 1"), right.replace("map flip 1 0 2", "map flip 1 0 0"),
            right.replace("begin 0", "begin 3"), right.replace("begin 0", "begin 00"), right.replace("begin 0", "begin -0"),
            right.replace("begin 0", "begin"), right.replace("begin 0", "begin "), right.replace("begin 0", "begin 0 0"),
            right.replace("begin 0", "begin " + FORTY), right.replace("begin 0", "begin " + "7" * 5000),
            right.replace("begin", "Begin"), right.replace("joins", "join"), right.replace("joins ", "joins  "),
            right.replace("map", "maps"), right.replace("0 2 2 / 2 1 2 / 2 2 2", "0 2 2 / 2 1 2 / 2 1 2"),
            right.replace(" / ", "/"), lines[1] + "\n" + lines[0] + "\n", "\n".join(lines[:2]), "joins 0\nbegin 0",
            "joins 0\n", "begin 0\n", "joins\nbegin 0\n", "joins 0\nbegin 0\nmap a\n", "joins 0\nbegin 0\nmap  0\n",
            "joins 0\nbegin 0\n" + many, "joins 0\nbegin 0\n" + "map a 0\n" * 20000, "joins 0\nbegin 0\nmap b 0\nmap a 0\n",
            "joins 0\nbegin 0\nmap a 0\nmap a 0\n", "joins 0\nbegin 0\nmap a 0 \n", repr(parity())])
        self.assertEqual(read_analysis("joins 0\nbegin 0\n" + many[:-8]).statements(), list("abcdef"))

    def test_programs(self):
        right = show_program(parity_program())
        self.assertEqual(right, "places 4\nbegins 0\nedge 0 even 1\nedge 0 flip 1\nedge 1 even 2\nedge 3 flip 2\n")
        self.assertEqual(read_program(right), parity_program())
        lines = right.split("\n")[:-1]
        for at in range(6):
            self.refused(read_program, ["".join(line + "\n" for line in lines[:at + 1] + lines[at:])])
            for there in range(at):
                other = list(lines)
                other[at], other[there] = other[there], other[at]
                self.refused(read_program, ["".join(line + "\n" for line in other)])
        self.refused(read_program, [
            right[:-1], right + "\n", right + " ", right.replace("places 4", "places 3"), right.replace("places 4", "places 04"),
            right.replace("places 4", "places 0"), right.replace("places 4", "places 2001"),
            right.replace("places 4", "places " + FORTY), right.replace("places 4", "places " + MORE),
            right.replace("places 4", "places " + "4" * 5000), right.replace("places 4", "places 4 4"),
            right.replace("places 4", "places"), right.replace("places 4", "places -4"), right.replace("begins 0", "begins"),
            right.replace("begins 0", "begins "), right.replace("begins 0", "begins 0 0"), right.replace("begins 0", "begins 1 0"),
            right.replace("begins 0", "begins 4"), right.replace("begins 0", "begins 00"), right.replace("begins", "begin"),
            right.replace("begins 0", "begins 0  1"), right.replace("edge 0 even 1", "edge 0 even 4"),
            right.replace("edge 0 even 1", "edge 0 even"), right.replace("edge 0 even 1", "edge 0 1 even"),
            right.replace("edge 0 even 1", "edge 0 even 1 1"), right.replace("edge 0 even 1", "edge 0 Even 1"),
            right.replace("edge 0 even 1", "edge 0 even 01"), right.replace("edge 0 even 1", "edge  0 even 1"),
            right.replace("edge 0 even 1", "edge 0  1"), right.replace("edge 0 even 1", "edge 0 even 1 "),
            right.replace("edge", "Edge"), "places 1\n", "begins 0\n", "places 1\nbegins 0", "places 1\nbegins 0\n\n",
            "places 1\n\nbegins 0\n", "places 20\nbegins 10 9\n", "places 1\nbegins 0\nedge 0 a 0\nedge 0 a 0\n",
            "places 11\nbegins 0\nedge 10 a 0\nedge 9 a 0\n", repr(parity_program())])
        self.assertEqual(read_program("places 2000\nbegins 9 10 1999\n"), Program(2000, [9, 10, 1999], []))

    def test_deeds(self):
        self.refused(read_deed, ["Place", "place ", " place", "place\n", "place 0", "places", "begin", "begin ", "begin 00",
                                 "begin 01", "begin -1", "begin +1", "begin a", "begin 0 0", "begin  0", "begin 0\n", "free", "free x",
                                 "edge", "edge 0", "edge 0 a", "edge 0 a 0 0", "edge 0 A 0", "edge 0 0 a", "edge a 0 0", "edge 0  a 0",
                                 "edge 0 abcdefghi 0", "edge 0 a 00", "edge 0 a b", "edge 0 1 2", "cut 0 a", "cut 0 a -", "-", "0",
                                 "back", "begin " + MORE, "edge 0 a " + MORE, "begin " + "1" * 5000, "begin 0" + "0" * 40,
                                 "begin 1_0", "begin 1.0", "begin 1e1", "('place',)", "edge 0 a 0\nedge 0 a 1", "begin,0"])
        self.assertEqual(read_deed("begin " + FORTY), ("begin", int(FORTY)))
        self.assertEqual(read_deed("cut 0 edge 10"), ("cut", 0, "edge", 10))


class ReadLogTest(unittest.TestCase):
    def test_the_first_line_that_is_not_right(self):
        right = "place\nedge 0 flip 1\nbegin 1\nfree 0\n"
        self.assertEqual(read_log(parity(), right).log(), [("place",), ("edge", 0, "flip", 1), ("begin", 1), ("free", 0)])
        self.assertEqual(read_log(parity(), ""), Book(parity()))
        for text, at in [
                ("\n", 0), (" ", 0), ("place", 0), ("place\nplace", 1), (right + "place", 4), (right + " ", 4), (right + "\n", 4),
                (right + "free 1\n", 4), (right + "begin 1\n", 4), (right + "begin 2\n", 4), (right + "edge 0 none 1\n", 4),
                (right + "cut 0 even 1\n", 4), (right + "edge 0 flip 1\n", 4), ("place\n\nplace\n", 1), ("place \n", 0),
                ("edge 0 flip 1\nplace\n", 0), ("Place\n", 0), ("place\nbegin 01\n", 1), ("place\nbegin " + MORE + "\n", 1),
                ("place\nbegin " + FORTY + "\n", 1), ("place\nback\n", 1), (right[:-1], 3), ("0\n" * 20000, 0), ("-", 0),
                ("place\n" * 40, 39), ("place\n" * 39 + "place", 39), (right + "none", 4), ("begin 0\nplace", 0)]:
            with self.subTest(text[:99]):
                self.assertEqual(raised(self, NoEntry, lambda: read_log(parity(), text)).at, at)

    def test_a_hundred_deeds(self):
        pair = "edge 0 flip 0\ncut 0 flip 0\n"
        self.assertEqual(len(read_log(parity(), pair * 50)), 100)
        self.assertEqual(raised(self, NoEntry, lambda: read_log(parity(), pair * 51)).at, 100)
        self.assertEqual(raised(self, NoEntry, lambda: read_log(parity(), pair * 50 + "place")).at, 100)
        self.assertEqual(raised(self, NoEntry, lambda: read_log(parity(), pair * 5000)).at, 100)
        self.assertEqual(len(read_log(parity(), "place\n" * 39)), 39)

    def test_by_another_analysis(self):
        text = "edge 0 flip 0\n"
        self.assertEqual(read_log(parity(), text).analysis(), parity())
        other = parity().without(["flip"])
        self.assertEqual(raised(self, NoEntry, lambda: read_log(other, text)).at, 0)


if __name__ == "__main__":
    unittest.main()
