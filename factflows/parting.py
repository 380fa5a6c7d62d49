"""Analyses in which the fact of a place is not below that of another one [82]."""

from factflows.analyses import Analysis
from factflows.facts import facts_of
from factflows.fits import check_places
from factflows.follows import is_within
from factflows.mirrors import mirror_of, word_mirror
from factflows.words import compare_words


def _both_statements(one, other):
    """The statements of two programs, each once."""
    return sorted(set(one.statements() + other.statements()))


def parting_of(one, place, other, there, *, most=64):
    """None if place is within there, otherwise the mirror of other, by which the fact of place is not below."""
    if is_within(one, place, other, there):
        return None
    analysis, _ = mirror_of(other, _both_statements(one, other), most=most)
    return analysis


def word_parting(one, place, other, there, *, most=64):
    """None if each word of a path to place is one of a path to there, otherwise the mirror of the first that is not."""
    told = compare_words(one, place, other, there)
    if told[0] == "within":
        return None
    analysis, _ = word_mirror(told[1], _both_statements(one, other), most=most)
    return analysis


def is_parting(one, place, other, there, thing):
    """Whether thing is an Analysis that both programs fit, by which the fact of place is not below that of there."""
    check_places(one, place, other, there)
    if not isinstance(thing, Analysis):
        return False
    known = thing.statements()
    if not all([name in known for name in _both_statements(one, other)]):
        return False
    return not thing.joins.is_below(facts_of(thing, one)[place], facts_of(thing, other)[there])
