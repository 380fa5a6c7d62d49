"""Analyses: joins, a begin, and a map that rises for each statement [30] [31]."""

from factflows.errors import NoRise, NoStatement, TooMany, Unlike, Wrong
from factflows.joins import Joins, first_fall, first_loss, is_map, turned_back
from factflows.kinds import is_name, is_number

MOST_STATEMENTS = 6


def _are_maps(many, thing):
    if not isinstance(thing, dict) or len(thing) > MOST_STATEMENTS:
        return False
    return all([is_name(name) and is_map(many, thing[name]) for name in thing])


def _check_rise(joins, maps):
    for name in sorted(maps):
        fall = first_fall(joins, maps[name])
        if fall is not None:
            raise NoRise(name, fall[0], fall[1])


def _paired(ours, theirs):
    many = len(theirs)
    return [u * many + v for u in ours for v in theirs]


def found_values(joins, maps, begin):
    """The values that come, in the order in which they are found.

    What the statements, ascending, do to a value, and then its joins with those ahead of it, are
    looked at value by value: so the order is the same however the values are numbered.
    """
    found = {begin: True}
    values = [begin]
    at = 0
    while at < len(values):
        made = [maps[name][values[at]] for name in maps]
        joined = [joins.join(value, values[at]) for value in values[:at]]
        for value in made + joined:
            if value not in found:
                found[value] = True
                values.append(value)
        at += 1
    return values


class Analysis:
    """A table of values with a begin, and what each statement takes the values to."""

    def __init__(self, joins, maps, *, begin=0):
        if not isinstance(joins, Joins):
            raise Wrong(0)
        if not _are_maps(len(joins), maps):
            raise Wrong(1)
        if not is_number(len(joins), begin):
            raise Wrong(2)
        _check_rise(joins, maps)
        self._joins = joins
        self._maps = {name: list(maps[name]) for name in sorted(maps)}
        self._begin = begin

    @property
    def joins(self):
        """The Joins of the values."""
        return self._joins

    @property
    def begin(self):
        """The value at the begin places."""
        return self._begin

    def __eq__(self, other):
        return (isinstance(other, Analysis) and self._joins == other._joins
                and self._begin == other._begin and self._maps == other._maps)

    def __len__(self):
        return len(self._joins)

    def __repr__(self):
        return f"Analysis({self._joins!r}, {self._maps!r}, begin={self._begin!r})"

    def __mul__(self, other):
        if not isinstance(other, Analysis):
            return NotImplemented
        if self.statements() != other.statements():
            raise Unlike()
        joins = self._joins * other._joins
        maps = {name: _paired(self._maps[name], other._maps[name]) for name in self._maps}
        return Analysis(joins, maps, begin=self._begin * len(other) + other._begin)

    def statements(self):
        """The names of the statements."""
        return list(self._maps)

    def map_of(self, name):
        """What a statement takes the values to."""
        if name not in self._maps:
            raise NoStatement(name)
        return list(self._maps[name])

    def do(self, word, *, value=None):
        """What a word does to a value, or to the begin."""
        done = self._begin if value is None else value
        for name in word:
            done = self.map_of(name)[done]
        return done

    def without(self, names):
        """The Analysis without some statements."""
        for name in names:
            if name not in self._maps:
                raise NoStatement(name)
        maps = {name: self._maps[name] for name in self._maps if name not in names}
        return Analysis(self._joins, maps, begin=self._begin)

    def unkept(self):
        """None if joins are kept, or the least (name, u, v) of a statement that does not."""
        for name in self._maps:
            loss = first_loss(self._joins, self._maps[name])
            if loss is not None:
                return (name, loss[0], loss[1])
        return None

    def coming(self):
        """The values that are facts in some program."""
        return sorted(found_values(self._joins, self._maps, self._begin))

    def word_values(self):
        """The tuples (value, word) of what words make of the begin, with the least shortest words."""
        words = {self._begin: ()}
        values = [self._begin]
        at = 0
        # The values stand in the order of their words, the shortest ahead: so the first word is the least.
        while at < len(values):
            for name in self._maps:
                made = self._maps[name][values[at]]
                if made not in words:
                    words[made] = words[values[at]] + (name,)
                    values.append(made)
            at += 1
        return sorted(words.items())

    def restricted(self):
        """The Analysis of the values that come, and these values."""
        values = self.coming()
        numbers = {value: at for at, value in enumerate(values)}
        rows = [[numbers[self._joins.join(u, v)] for v in values] for u in values]
        maps = {name: [numbers[self._maps[name][value]] for value in values] for name in self._maps}
        return (Analysis(Joins(rows), maps, begin=numbers[self._begin]), values)

    def with_map(self, name, values):
        """The Analysis with a further statement, or with another map of one."""
        if not is_name(name):
            raise Wrong(0)
        if not is_map(len(self), values):
            raise Wrong(1)
        maps = dict(self._maps)
        maps[name] = values
        if len(maps) > MOST_STATEMENTS:
            raise TooMany(MOST_STATEMENTS)
        return Analysis(self._joins, maps, begin=self._begin)

    def renamed(self, changes):
        """The Analysis with other names of the statements."""
        maps = {changes.get(name, name): self._maps[name] for name in self._maps}
        return Analysis(self._joins, maps, begin=self._begin)

    def moved(self, order):
        """The Analysis in which order[u] is what u is here."""
        back = turned_back(order)
        maps = {name: [order[self._maps[name][u]] for u in back] for name in self._maps}
        return Analysis(self._joins.moved(order), maps, begin=order[self._begin])
