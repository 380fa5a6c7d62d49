"""The analysis that knows all path values, and whether answers to facts are those to path facts [72]."""

from factflows.analyses import Analysis
from factflows.errors import TooMany
from factflows.joins import MOST_VALUES, Joins
from factflows.pairs import are_alike


def _all_sets(values):
    """All sets of some ascending values but the empty one, as tuples, ascending."""
    found = [()]
    for value in values:
        found = found + [some + (value,) for some in found]
    return sorted(found)[1:]


def exact_of(analysis):
    """The analysis whose values stand for sets of path values, and these sets."""
    values = [value for value, _ in analysis.word_values()]
    if (1 << len(values)) - 1 > MOST_VALUES:
        raise TooMany(MOST_VALUES)
    sets = _all_sets(values)
    numbers = {some: at for at, some in enumerate(sets)}
    joins = Joins([[numbers[tuple(sorted(set(some) | set(more)))] for more in sets] for some in sets])
    maps = {}
    for name in analysis.statements():
        to = analysis.map_of(name)
        maps[name] = [numbers[tuple(sorted({to[value] for value in some}))] for some in sets]
    return (Analysis(joins, maps, begin=numbers[(analysis.begin,)]), sets)


def exactness(analysis, answers, *, most=600):
    """Whether the answers to facts are those to path facts at all places, and if not, where they differ."""
    exact, sets = exact_of(analysis)
    known = [answers[analysis.joins.join_all(list(some))] for some in sets]
    told = are_alike(analysis, answers, exact, known, most=most)
    word = "exact" if told[0] == "alike" else "loses"
    return (word,) + told[1:]
