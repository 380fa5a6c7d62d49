"""Contexts, lists of steps that lead two values to unlike answers [71]."""

from factflows.errors import Absent
from factflows.kinds import is_integer


def all_steps(analysis):
    """All steps of contexts, ascending, each as a tuple (step, values) with what it takes the values to."""
    rows = analysis.joins.rows()
    done = [(("do", name), analysis.map_of(name)) for name in analysis.statements()]
    return done + [(("join", value), rows[value]) for value in analysis.coming()]


def _numbered(values, keys):
    """The classes of values with equal keys, numbered by their least members; the values are ascending."""
    numbers = {}
    return {value: numbers.setdefault(keys[value], len(numbers)) for value in values}


def all_splits(analysis, answers):
    """For 0, 1, 2, .. the classes of the values that no context of at most so many steps leads to unlike answers.

    Each is a dict with a number for each value that comes. No context parts the values of the last classes: they are
    those of the least analysis [70].
    """
    coming = analysis.coming()
    steps = all_steps(analysis)
    splits = [_numbered(coming, answers)]
    while True:
        last = splits[-1]
        keys = {value: tuple([last[value]] + [last[to[value]] for _, to in steps]) for value in coming}
        finer = _numbered(coming, keys)
        if finer == last:
            return splits
        splits.append(finer)


def least_context(splits, steps, value, other):
    """None if two values are one, otherwise the least of the shortest contexts that lead them to unlike answers."""
    apart = [at for at, classes in enumerate(splits) if classes[value] != classes[other]]
    if not apart:
        return None
    context = []
    # With each step the values are led to some that are apart by a context that is shorter by one.
    for classes in reversed(splits[:apart[0]]):
        leading = [(step, to) for step, to in steps if classes[to[value]] != classes[to[other]]]
        step, to = leading[0]
        context.append(step)
        value, other = to[value], to[other]
    return context


def _check_coming(analysis, value, other):
    coming = analysis.coming()
    for asked in (value, other):
        if asked not in coming:
            raise Absent(asked)


def context_of(analysis, answers, value, other):
    """None if two values are one for a question, otherwise the least of the shortest contexts that part them."""
    _check_coming(analysis, value, other)
    return least_context(all_splits(analysis, answers), all_steps(analysis), value, other)


def _is_plain_step(thing):
    """Whether thing looks like a step: a tuple of a string, and of a string or an integer."""
    if not isinstance(thing, tuple) or len(thing) != 2 or not isinstance(thing[0], str):
        return False
    return isinstance(thing[1], str) or is_integer(thing[1])


def parts_by(steps, answers, value, other, thing):
    """Whether thing, any value, is a context of some steps that leads two values to unlike answers."""
    if not isinstance(thing, list) or not all([_is_plain_step(step) for step in thing]):
        return False
    known = {step: to for step, to in steps}
    for step in thing:
        if step not in known:
            return False
        value, other = known[step][value], known[step][other]
    return answers[value] != answers[other]


def is_context(analysis, answers, value, other, thing):
    """Whether thing is a context that leads two values to unlike answers."""
    _check_coming(analysis, value, other)
    return parts_by(all_steps(analysis), answers, value, other, thing)
