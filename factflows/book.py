"""Books: a Program that deeds change, with what they do to its facts [101]."""

from factflows.analyses import Analysis
from factflows.deeds import deed_places, deed_statement, is_deed, is_refused, program_behind, program_of
from factflows.errors import Full, NoDeed, NoEntry, NoStatement, Nothing, Refused, Wrong
from factflows.facts import facts_of
from factflows.fits import check_place
from factflows.kinds import is_number

MOST_DEEDS = 100
MOST_BOOK_PLACES = 40


def _changes(before, after):
    """The tuples (place, before, after) where the facts differ; a place that was not there has None."""
    known = before + [None] * (len(after) - len(before))
    return [(place, old, new) for place, (old, new) in enumerate(zip(known, after)) if old != new]


class Book:
    """An Analysis, and a Program with the log of the deeds that made it."""

    def __init__(self, analysis):
        if not isinstance(analysis, Analysis):
            raise Wrong(0)
        self._analysis = analysis
        self._program = program_of([])
        self._log = []
        self._undone = []

    def __eq__(self, other):
        return isinstance(other, Book) and self._analysis == other._analysis and self._log == other._log

    def __len__(self):
        return len(self._log)

    def do(self, deed):
        """Do a deed; what changes is told as tuples (place, before, after)."""
        if not is_deed(deed):
            raise NoDeed()
        self._check(deed)
        before = self.facts()
        self._program = program_behind(self._program, deed)
        self._log.append(deed)
        self._undone = []
        return _changes(before, self.facts())

    def _check(self, deed):
        """Raise the first error for which a deed can not be done as things stand."""
        if len(self._log) >= MOST_DEEDS:
            raise Full(MOST_DEEDS)
        if deed[0] == "place" and self._program.places >= MOST_BOOK_PLACES:
            raise Full(MOST_BOOK_PLACES)
        for place in deed_places(deed):
            check_place(self._program, place)
        name = deed_statement(deed)
        if name is not None and name not in self._analysis.statements():
            raise NoStatement(name)
        if is_refused(self._program, deed):
            raise Refused(deed)

    def back(self):
        """Undo the last deed of the log, and tell it."""
        if not self._log:
            raise Nothing()
        deed = self._log.pop()
        self._undone.append(deed)
        self._program = program_of(self._log)
        return deed

    def again(self):
        """Do the deed again that was undone last, and tell it."""
        if not self._undone:
            raise Nothing()
        deed = self._undone.pop()
        self._log.append(deed)
        self._program = program_behind(self._program, deed)
        return deed

    def analysis(self):
        """The Analysis."""
        return self._analysis

    def program(self):
        """The Program as it stands."""
        return self._program

    def facts(self):
        """The facts of the Program."""
        return facts_of(self._analysis, self._program)

    def log(self):
        """The deeds that are done and not undone."""
        return list(self._log)

    def past(self, many):
        """The Program behind so many first deeds of the log."""
        if not is_number(len(self._log) + 1, many):
            raise NoEntry(many)
        return program_of(self._log[:many])

    def copied(self):
        """A Book with the same log and the same undone deeds, which goes on by itself."""
        book = Book(self._analysis)
        book._program = self._program
        book._log = list(self._log)
        book._undone = list(self._undone)
        return book
