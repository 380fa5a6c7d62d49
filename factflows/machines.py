"""Machines: states, and the pairs of states by which statements lead on [90] [91]."""

from factflows.analyses import MOST_STATEMENTS
from factflows.errors import NoStatement, Wrong
from factflows.families import coming_analysis, united
from factflows.fits import all_outs, check_fits
from factflows.joins import MOST_VALUES
from factflows.kinds import is_name, is_number, is_pair
from factflows.searches import ways_from

MOST_STATES = 6


def _are_firsts(states, thing):
    if not isinstance(thing, (list, tuple)) or len(thing) == 0:
        return False
    return all([is_number(states, state) for state in thing])


def _are_pairs(states, thing):
    return isinstance(thing, (list, tuple)) and all([is_pair(states, states, pair) for pair in thing])


def _are_moves(states, thing):
    if not isinstance(thing, dict) or len(thing) > MOST_STATEMENTS:
        return False
    return all([is_name(name) and _are_pairs(states, thing[name]) for name in thing])


class Machine:
    """States with some first ones, and where statements lead from them."""

    def __init__(self, states, firsts, moves):
        if not is_number(MOST_STATES + 1, states) or states == 0:
            raise Wrong(0)
        if not _are_firsts(states, firsts):
            raise Wrong(1)
        if not _are_moves(states, moves):
            raise Wrong(2)
        self._states = states
        self._firsts = sorted(set(firsts))
        self._moves = {name: sorted({(a, b) for a, b in moves[name]}) for name in sorted(moves)}

    @property
    def states(self):
        """How many states there are."""
        return self._states

    def __eq__(self, other):
        return (isinstance(other, Machine) and self._states == other._states
                and self._firsts == other._firsts and self._moves == other._moves)

    def __repr__(self):
        return f"Machine({self._states!r}, {self._firsts!r}, {self._moves!r})"

    def firsts(self):
        """The first states."""
        return list(self._firsts)

    def statements(self):
        """The names of the statements."""
        return list(self._moves)

    def moves(self, name):
        """The pairs of states by which a statement leads on."""
        if name not in self._moves:
            raise NoStatement(name)
        return list(self._moves[name])

    def step(self, some, name):
        """The states to which a statement leads from some."""
        return sorted({b for a, b in self.moves(name) if a in some})

    def after(self, word):
        """The states in which a run along a word can end."""
        some = self.firsts()
        for name in word:
            some = self.step(some, name)
        return some


def all_moves(machine):
    """The pairs of all statements by their names."""
    return {name: machine.moves(name) for name in machine.statements()}


def states_at(machine, program):
    """For each place the states in which runs along the words of its paths can end, None for one not reached."""
    check_fits(machine, program)
    outs = all_outs(program)
    moves = all_moves(machine)

    def further(spot):
        place, state = spot
        return [(name, (to, b)) for name, to in outs[place] for a, b in moves[name] if a == state]

    starts = [(begin, first) for begin in program.begins() for first in machine.firsts()]
    found = [None] * program.places
    for reached in program.reached():
        found[reached] = []
    for at, end in sorted(ways_from(starts, further, None)):
        found[at].append(end)
    return found


def collecting(machine):
    """The analysis whose values stand for the sets of states in which runs can end, and these sets."""

    def moved(name, some):
        return tuple(machine.step(list(some), name))

    return coming_analysis(tuple(machine.firsts()), machine.statements(), moved, united, MOST_VALUES)
