"""Texts of words, joins, analyses, programs, deeds and logs [102] [103]."""

from factflows.analyses import Analysis
from factflows.book import Book
from factflows.deeds import is_deed
from factflows.errors import FlowError, NoEntry, NoText
from factflows.joins import Joins
from factflows.kinds import is_word
from factflows.programs import Program

DIGITS = "0123456789"
MOST_DIGITS = 40
EMPTY_WORD = "-"
BETWEEN_ROWS = " / "


def is_number_text(text):
    """Whether a string is the text of a number: digits without leading zeros."""
    if not 1 <= len(text) <= MOST_DIGITS or not all([digit in DIGITS for digit in text]):
        return False
    return text == "0" or text[0] != "0"


def text_lines(text):
    """The lines of a text, each of which is followed by a line feed."""
    return text.split("\n")[:-1]


def _text_of(lines):
    return "".join([line + "\n" for line in lines])


def _row_text(values):
    return " ".join([str(value) for value in values])


def show_word(word):
    """The text of a word."""
    return " ".join(word) if word else EMPTY_WORD


def show_joins(joins):
    """The text of Joins."""
    return BETWEEN_ROWS.join([_row_text(row) for row in joins.rows()])


def show_analysis(analysis):
    """The text of an Analysis."""
    lines = [f"joins {show_joins(analysis.joins)}", f"begin {analysis.begin}"]
    lines.extend([f"map {name} {_row_text(analysis.map_of(name))}" for name in analysis.statements()])
    return _text_of(lines)


def show_program(program):
    """The text of a Program."""
    lines = [f"places {program.places}", f"begins {_row_text(program.begins())}"]
    lines.extend([f"edge {_row_text(edge)}" for edge in program.edges()])
    return _text_of(lines)


def show_deed(deed):
    """The text of a deed."""
    return _row_text(deed)


def show_log(book):
    """The text of the log of a Book."""
    return _text_of([show_deed(deed) for deed in book.log()])


def _check_string(thing):
    if not isinstance(thing, str):
        raise NoText()


def _number_in(text):
    if not is_number_text(text):
        raise NoText()
    return int(text)


def _row_in(text):
    return [_number_in(part) for part in text.split(" ")]


def _lines_in(text):
    """The lines of a text that has two at least, and nothing behind the last line feed."""
    _check_string(text)
    lines = text_lines(text)
    if len(lines) < 2 or not text.endswith("\n"):
        raise NoText()
    return lines


def _rest_behind(head, line):
    """What stands behind the first word of a line, which is to be head."""
    if not line.startswith(head + " "):
        raise NoText()
    return line[len(head) + 1:]


def read_word(text):
    """The word with a text."""
    _check_string(text)
    word = () if text == EMPTY_WORD else tuple(text.split(" "))
    if not is_word(word):
        raise NoText()
    return word


def read_joins(text):
    """The Joins with a text."""
    _check_string(text)
    rows = [_row_in(row) for row in text.split(BETWEEN_ROWS)]
    try:
        return Joins(rows)
    except FlowError:
        raise NoText() from None


def _named_row_in(line):
    """The name and the row of a line that tells a map."""
    name, _, row = _rest_behind("map", line).partition(" ")
    return (name, _row_in(row))


def read_analysis(text):
    """The Analysis with a text."""
    lines = _lines_in(text)
    joins = read_joins(_rest_behind("joins", lines[0]))
    begin = _number_in(_rest_behind("begin", lines[1]))
    maps = dict([_named_row_in(line) for line in lines[2:]])
    try:
        analysis = Analysis(joins, maps, begin=begin)
    except FlowError:
        raise NoText() from None
    # What is read from names twice or out of order has another text.
    if show_analysis(analysis) != text:
        raise NoText()
    return analysis


def _edge_in(line):
    parts = _rest_behind("edge", line).split(" ")
    if len(parts) != 3:
        raise NoText()
    return (_number_in(parts[0]), parts[1], _number_in(parts[2]))


def read_program(text):
    """The Program with a text."""
    lines = _lines_in(text)
    places = _number_in(_rest_behind("places", lines[0]))
    begins = _row_in(_rest_behind("begins", lines[1]))
    edges = [_edge_in(line) for line in lines[2:]]
    try:
        program = Program(places, begins, edges)
    except FlowError:
        raise NoText() from None
    # What is read from places or edges twice or out of order has another text.
    if show_program(program) != text:
        raise NoText()
    return program


def deed_of(thing):
    """The deed with a text, or None if thing, any value, is not the text of one."""
    if not isinstance(thing, str):
        return None
    deed = tuple([int(part) if is_number_text(part) else part for part in thing.split(" ")])
    return deed if is_deed(deed) else None


def read_deed(text):
    """The deed with a text."""
    deed = deed_of(text)
    if deed is None:
        raise NoText()
    return deed


def read_log(analysis, text):
    """The Book with the log that has a text."""
    _check_string(text)
    book = Book(analysis)
    lines = text.split("\n")
    for at, line in enumerate(lines[:-1]):
        try:
            book.do(read_deed(line))
        except FlowError:
            raise NoEntry(at) from None
    if lines[-1] != "":
        raise NoEntry(len(lines) - 1)
    return book
