"""Joins, tables that tell the join of each two values [22], and maps between values [23]."""

from factflows.errors import BadJoin, TooMany, Wrong
from factflows.kinds import is_number

MOST_VALUES = 64


def is_map(many, thing):
    """Whether thing is a list that takes each of so many values to one of them."""
    if not isinstance(thing, list) or len(thing) != many:
        return False
    return all([is_number(many, value) for value in thing])


def _are_rows(thing):
    if not isinstance(thing, list) or not 1 <= len(thing) <= MOST_VALUES:
        return False
    return all([is_map(len(thing), row) for row in thing])


def _unlike_itself(rows):
    for u in range(len(rows)):
        if rows[u][u] != u:
            return (u,)
    return None


def _unlike_turned(rows):
    for u in range(len(rows)):
        for v in range(len(rows)):
            if rows[u][v] != rows[v][u]:
                return (u, v)
    return None


def _unlike_shifted(rows):
    # Whole rows are compared, since a loop over all triples is slow for 64 values.
    for u in range(len(rows)):
        for v in range(len(rows)):
            left = rows[rows[u][v]]
            right = [rows[u][value] for value in rows[v]]
            if left != right:
                return (u, v, _first_unlike(left, right))
    return None


def _first_unlike(left, right):
    return [at for at in range(len(left)) if left[at] != right[at]][0]


def _bad_join(rows):
    """The least of the shortest tuples at which the rows are not those of joins, or None."""
    return _unlike_itself(rows) or _unlike_turned(rows) or _unlike_shifted(rows)


def _product_rows(ours, theirs):
    many = len(theirs)
    return [[u * many + v for u in row for v in line] for row in ours for line in theirs]


def turned_back(order):
    """The list that undoes an order: at order[u] stands u."""
    return [order.index(at) for at in range(len(order))]


class Joins:
    """Values 0, 1, 2, .. with the join of each two of them."""

    def __init__(self, rows):
        if not _are_rows(rows):
            raise Wrong(0)
        which = _bad_join(rows)
        if which is not None:
            raise BadJoin(which)
        self._rows = [list(row) for row in rows]

    def __eq__(self, other):
        return isinstance(other, Joins) and self._rows == other._rows

    def __len__(self):
        return len(self._rows)

    def __repr__(self):
        return f"Joins({self._rows!r})"

    def __mul__(self, other):
        if not isinstance(other, Joins):
            return NotImplemented
        if len(self) * len(other) > MOST_VALUES:
            raise TooMany(MOST_VALUES)
        return Joins(_product_rows(self._rows, other._rows))

    def rows(self):
        """The table: at [u][v] stands the join of u and v."""
        return [list(row) for row in self._rows]

    def join(self, u, v):
        """The join of two values."""
        return self._rows[u][v]

    def join_all(self, values):
        """The join of a list of one or more values."""
        joined = values[0]
        for value in values:
            joined = self._rows[joined][value]
        return joined

    def is_below(self, u, v):
        """Whether u is below v."""
        return self._rows[u][v] == v

    def below(self, u):
        """The values that are below u."""
        return [v for v in range(len(self)) if self.is_below(v, u)]

    def above(self, u):
        """The values that u is below."""
        return [v for v in range(len(self)) if self.is_below(u, v)]

    def top(self):
        """The value that all values are below."""
        return self.join_all(list(range(len(self))))

    def bottom(self):
        """The value that is below all values, or None."""
        lowest = [u for u in range(len(self)) if len(self.above(u)) == len(self)]
        return lowest[0] if lowest else None

    def meet(self, u, v):
        """The greatest of the values below both, or None if there is none below both."""
        both = [w for w in self.below(u) if self.is_below(w, v)]
        # With each two values their join is below both, too: so the join of all is the greatest.
        return self.join_all(both) if both else None

    def covers(self):
        """The tuples (u, v), u below v and unlike it, with no third value between."""
        found = []
        for u in range(len(self)):
            higher = [v for v in self.above(u) if v != u]
            for v in higher:
                if not any([self.is_below(w, v) for w in higher if w != v]):
                    found.append((u, v))
        return found

    def height(self):
        """The most values in a list in which each but the last is below the next, unlike it."""
        heights = {}
        # What is below a value, and unlike it, has fewer values below it: so it comes ahead.
        for _, u in sorted([(len(self.below(v)), v) for v in range(len(self))]):
            heights[u] = 1 + max([heights[v] for v in self.below(u) if v != u], default=0)
        return heights[self.top()]

    def parts(self):
        """The values that are the join of no two values both of which are unlike them."""
        joined = {}
        for u in range(len(self)):
            for v in range(len(self)):
                if self._rows[u][v] not in (u, v):
                    joined[self._rows[u][v]] = True
        return [u for u in range(len(self)) if u not in joined]

    def closed(self, values):
        """All joins of one or more values of a list."""
        found = {}
        for value in values:
            more = [self._rows[u][value] for u in found]
            for joined in more:
                found[joined] = True
            found[value] = True
        return sorted(found)

    def moved(self, order):
        """The Joins in which order[u] is what u is here."""
        back = turned_back(order)
        return Joins([[order[self._rows[u][v]] for v in back] for u in back])


def chain_joins(many):
    """The Joins of so many values in which the join is the greater value."""
    return Joins([[max(u, v) for v in range(many)] for u in range(many)])


def union_joins(many):
    """The Joins of sets of so many binary digits."""
    values = 1 << many
    return Joins([[u | v for v in range(values)] for u in range(values)])


def first_fall(joins, values):
    """The least (low, high), low below high, that a map does not keep in order, or None."""
    for low in range(len(joins)):
        for high in joins.above(low):
            if not joins.is_below(values[low], values[high]):
                return (low, high)
    return None


def first_loss(joins, values):
    """The least (u, v) whose join a map does not take to the join of what it takes them to, or None."""
    for u in range(len(joins)):
        for v in range(len(joins)):
            if values[joins.join(u, v)] != joins.join(values[u], values[v]):
                return (u, v)
    return None


def _goes_on(joins, part, value):
    """Whether a map that rises as far as part tells still does if the next value goes to value."""
    at = len(part)
    for u in range(at):
        if joins.is_below(u, at) and not joins.is_below(part[u], value):
            return False
        if joins.is_below(at, u) and not joins.is_below(value, part[u]):
            return False
    return True


def rising_maps(joins):
    """All maps that rise, in ascending order."""
    many = len(joins)
    waiting = [[]]
    while waiting:
        part = waiting.pop()
        if len(part) == many:
            yield part
        else:
            fitting = [value for value in range(many) if _goes_on(joins, part, value)]
            # The last one is taken first, so the least one stands last.
            waiting.extend([part + [value] for value in reversed(fitting)])


def _begun_rows(cells, many, part):
    """The table with the first cells above its diagonal filled, None in those that are not."""
    rows = [[None] * many for _ in range(many)]
    for u in range(many):
        rows[u][u] = u
    for (u, v), value in zip(cells, part):
        rows[u][v] = value
        rows[v][u] = value
    return rows


def _told(rows, u, v):
    return None if u is None or v is None else rows[u][v]


def _may_be_joins(rows):
    """Whether (u | v) | w is u | (v | w) as far as a begun table tells."""
    for u in range(len(rows)):
        for v in range(len(rows)):
            for w in range(len(rows)):
                left = _told(rows, rows[u][v], w)
                right = _told(rows, u, rows[v][w])
                if left is not None and right is not None and left != right:
                    return False
    return True


def all_joins(many):
    """All Joins of so many values, in ascending order of their rows."""
    cells = [(u, v) for u in range(many) for v in range(u + 1, many)]
    waiting = [[]]
    while waiting:
        part = waiting.pop()
        rows = _begun_rows(cells, many, part)
        if _may_be_joins(rows):
            if len(part) == len(cells):
                yield Joins(rows)
            else:
                waiting.extend([part + [value] for value in reversed(range(many))])
