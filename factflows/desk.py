"""A desk, at which lines change a Book and ask of it [104]."""

from factflows.book import Book
from factflows.errors import Absent, NoCommand
from factflows.fits import check_place
from factflows.follows import is_within
from factflows.kinds import is_number
from factflows.notation import deed_of, is_number_text, show_deed, show_log, show_program, show_word, text_lines
from factflows.paths import lost, path_values, word_to
from factflows.small import small_program


def _told_row(parts):
    """Some parts, with blanks; - stands for None."""
    return " ".join(["-" if part is None else str(part) for part in parts])


def _told_all(texts):
    """The texts of several tuples or lines."""
    return " / ".join(texts) if texts else "none"


def _told_tuples(tuples):
    return _told_all([_told_row(parts) for parts in tuples])


def _back(book, _):
    return show_deed(book.back())


def _again(book, _):
    return show_deed(book.again())


def _log_lines(book, _):
    return _told_all(text_lines(show_log(book)))


def _program_lines(book, _):
    return _told_all(text_lines(show_program(book.program())))


def _facts(book, _):
    return _told_row(book.facts())


def _paths(book, numbers):
    values = path_values(book.analysis(), book.program(), numbers[0])
    return _told_row(values) if values else "none"


def _word(book, numbers):
    analysis, program = book.analysis(), book.program()
    place, value = numbers
    check_place(program, place)
    if not is_number(len(analysis), value):
        raise Absent(value)
    word = word_to(analysis, program, place, value)
    return "none" if word is None else show_word(word)


def _lost(book, _):
    return _told_tuples(lost(book.analysis(), book.program()))


def _within(book, numbers):
    program = book.program()
    return "yes" if is_within(program, numbers[0], program, numbers[1]) else "no"


def _small(book, numbers):
    program, places = small_program(book.program(), numbers)
    return f"{_told_all(text_lines(show_program(program)))} : {_told_row(places)}"


ANSWERS = {"back": _back, "again": _again, "log": _log_lines, "program": _program_lines, "facts": _facts,
           "paths": _paths, "word": _word, "lost": _lost, "within": _within, "small": _small}
NUMBERS = {"paths": 1, "word": 2, "within": 2}


def _is_command(words):
    """Whether the words of a line are a command with as many numbers as it takes."""
    if words[0] not in ANSWERS or not all([is_number_text(word) for word in words[1:]]):
        return False
    if words[0] == "small":
        return len(words) > 1
    return len(words) == 1 + NUMBERS.get(words[0], 0)


class Desk:
    """A Book, which lines change and ask of."""

    def __init__(self, analysis):
        # A Book raises Wrong(0) for what is no Analysis.
        self._book = Book(analysis)

    def execute(self, line):
        """Do what a line says, and return the answer."""
        deed = deed_of(line)
        if deed is not None:
            return _told_tuples(self._book.do(deed))
        words = line.split(" ") if isinstance(line, str) else [""]
        if not _is_command(words):
            raise NoCommand()
        answer = ANSWERS[words[0]]
        return answer(self._book, [int(word) for word in words[1:]])
