"""The analysis that knows all path values, and whether answers to facts are those to path facts [72]."""

from factflows.errors import TooMany
from factflows.families import sets_analysis, united
from factflows.fits import all_maps
from factflows.joins import MOST_VALUES
from factflows.pairs import are_alike


def _all_sets(values):
    """All sets of some ascending values but the empty one, as tuples, ascending."""
    found = [()]
    for value in values:
        found = found + [some + (value,) for some in found]
    return sorted(found)[1:]


def exact_of(analysis):
    """The analysis whose values stand for sets of path values, and these sets."""
    values = [value for value, _ in analysis.word_values()]
    if (1 << len(values)) - 1 > MOST_VALUES:
        raise TooMany(MOST_VALUES)
    sets = _all_sets(values)
    maps = all_maps(analysis)

    def moved(name, some):
        return tuple(sorted({maps[name][u] for u in some}))

    return (sets_analysis(sets, (analysis.begin,), analysis.statements(), moved, united), sets)


def exactness(analysis, answers, *, most=600):
    """Whether the answers to facts are those to path facts at all places, and if not, where they differ."""
    exact, sets = exact_of(analysis)
    known = [answers[analysis.joins.join_all(list(some))] for some in sets]
    told = are_alike(analysis, answers, exact, known, most=most)
    word = "exact" if told[0] == "alike" else "loses"
    return (word,) + told[1:]
