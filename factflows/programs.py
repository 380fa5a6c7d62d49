"""Programs: places, begin places, and edges that bear statements [32] [33]."""

from factflows.errors import Wrong
from factflows.fits import check_place
from factflows.kinds import is_name, is_number

MOST_PLACES = 2000


def _are_begins(places, thing):
    if not isinstance(thing, list) or len(thing) == 0:
        return False
    return all([is_number(places, place) for place in thing])


def _is_edge(places, thing):
    if not isinstance(thing, tuple) or len(thing) != 3:
        return False
    return is_number(places, thing[0]) and is_name(thing[1]) and is_number(places, thing[2])


def _are_edges(places, thing):
    return isinstance(thing, list) and all([_is_edge(places, edge) for edge in thing])


def _rows_into(places, edges):
    rows = [[] for _ in range(places)]
    for m, s, n in edges:
        rows[n].append((m, s))
    return rows


def _rows_out(places, edges):
    rows = [[] for _ in range(places)]
    for m, s, n in edges:
        rows[m].append((s, n))
    return rows


def _spread(starts, rows):
    """The places to which one comes from some by going on as the rows tell."""
    found = {place: True for place in starts}
    waiting = list(found)
    while waiting:
        place = waiting.pop()
        for to in rows[place]:
            if to not in found:
                found[to] = True
                waiting.append(to)
    return sorted(found)


class Program:
    """A graph of places whose edges bear statements."""

    def __init__(self, places, begins, edges):
        if not is_number(MOST_PLACES + 1, places) or places == 0:
            raise Wrong(0)
        if not _are_begins(places, begins):
            raise Wrong(1)
        if not _are_edges(places, edges):
            raise Wrong(2)
        self._places = places
        self._begins = sorted(set(begins))
        self._edges = sorted({(m, s, n) for m, s, n in edges})
        # As the edges are ascending, so are the rows.
        self._into = _rows_into(places, self._edges)
        self._out = _rows_out(places, self._edges)

    @property
    def places(self):
        """How many places there are."""
        return self._places

    def __eq__(self, other):
        return (isinstance(other, Program) and self._places == other._places
                and self._begins == other._begins and self._edges == other._edges)

    def __repr__(self):
        return f"Program({self._places!r}, {self._begins!r}, {self._edges!r})"

    def __add__(self, other):
        if not isinstance(other, Program):
            return NotImplemented
        many = self._places
        begins = self._begins + [place + many for place in other._begins]
        edges = self._edges + [(m + many, s, n + many) for m, s, n in other._edges]
        return Program(many + other._places, begins, edges)

    def begins(self):
        """The begin places."""
        return list(self._begins)

    def edges(self):
        """The edges."""
        return list(self._edges)

    def statements(self):
        """The statements of all edges."""
        return sorted({edge[1] for edge in self._edges})

    def into(self, place):
        """The tuples (m, s) of the edges that lead to a place."""
        check_place(self, place)
        return list(self._into[place])

    def out_of(self, place):
        """The tuples (s, n) of the edges that lead from a place."""
        check_place(self, place)
        return list(self._out[place])

    def reached(self):
        """The places that are reached."""
        return _spread(self._begins, [[n for _, n in row] for row in self._out])

    def leading(self, asked):
        """The places from which some number of edges leads to one of those asked for."""
        return _spread(asked, [[m for m, _ in row] for row in self._into])

    def with_edges(self, edges):
        """The Program with further edges."""
        return Program(self._places, self._begins, self._edges + edges)

    def without_edges(self, edges):
        """The Program without some edges."""
        gone = {edge: True for edge in edges}
        kept = [edge for edge in self._edges if edge not in gone]
        return Program(self._places, self._begins, kept)

    def with_begins(self, places):
        """The Program with further begin places."""
        return Program(self._places, self._begins + places, self._edges)

    def turned(self, place):
        """The Program with each edge turned, and with one begin place."""
        check_place(self, place)
        return Program(self._places, [place], [(n, s, m) for m, s, n in self._edges])

    def renamed(self, changes):
        """The Program with other names of the statements."""
        edges = [(m, changes.get(s, s), n) for m, s, n in self._edges]
        return Program(self._places, self._begins, edges)

    def moved(self, order):
        """The Program in which order[p] is what p is here."""
        begins = [order[place] for place in self._begins]
        return Program(self._places, begins, [(order[m], s, order[n]) for m, s, n in self._edges])

    def kept(self, places):
        """The Program of some places alone, in their ascending order."""
        numbers = {place: at for at, place in enumerate(sorted(places))}
        begins = [numbers[place] for place in self._begins if place in numbers]
        inner = [(m, s, n) for m, s, n in self._edges if m in numbers and n in numbers]
        return Program(len(places), begins, [(numbers[m], s, numbers[n]) for m, s, n in inner])


def line_program(word):
    """The Program of one path with a word."""
    return Program(len(word) + 1, [0], [(at, name, at + 1) for at, name in enumerate(word)])
