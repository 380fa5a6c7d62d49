"""Analyses whose values stand for sets, told as ascending tuples [72] [80] [81] [91]."""

from factflows.analyses import Analysis
from factflows.errors import TooMany
from factflows.joins import Joins


def united(some, more):
    """What two sets have together."""
    return tuple(sorted(set(some) | set(more)))


def shared(some, more):
    """What both of two sets have."""
    return tuple(sorted(set(some) & set(more)))


def sets_analysis(sets, first, statements, moved, joined):
    """The Analysis whose value i stands for sets[i], with first as its begin.

    moved tells what a statement makes of a set, joined the join of two; both lead to one of the sets always.
    """
    numbers = {some: at for at, some in enumerate(sets)}
    joins = Joins([[numbers[joined(some, more)] for more in sets] for some in sets])
    maps = {name: [numbers[moved(name, some)] for some in sets] for name in statements}
    return Analysis(joins, maps, begin=numbers[first])


def _coming_sets(first, statements, moved, joined, most):
    """The sets that come of a first one: with each set what statements make of it, and with each two their join."""
    found = {first: True}
    sets = [first]
    at = 0
    while at < len(sets):
        # Looked for at each set, so that it is not too late where sets come without end.
        if len(sets) > most:
            raise TooMany(most)
        made = [moved(name, sets[at]) for name in statements]
        made.extend([joined(sets[at], earlier) for earlier in sets[:at]])
        for some in made:
            if some not in found:
                found[some] = True
                sets.append(some)
        at += 1
    return sorted(sets)


def coming_analysis(first, statements, moved, joined, most):
    """The Analysis of the sets that come of a first one, and these sets; TooMany if more than most come."""
    sets = _coming_sets(first, statements, moved, joined, most)
    return (sets_analysis(sets, first, statements, moved, joined), sets)
