"""The analysis with the fewest values that answers the same [70] [71] [73]."""

from factflows.analyses import Analysis
from factflows.contexts import all_splits, all_steps, least_context, parts_by
from factflows.errors import Unlike
from factflows.joins import Joins
from factflows.kinds import is_integer, is_pair
from factflows.pairs import are_alike


def _listed(analysis, classes):
    """The number of the class of each value, None for one that does not come; classes is a dict."""
    return [classes.get(value) for value in range(len(analysis))]


def _least_members(classes):
    """The least value of each class, told by a list of their numbers, ascending by these."""
    many = len(set(classes) - {None})
    return [classes.index(number) for number in range(many)]


def least_of(analysis, answers):
    """The least analysis for a question, its answers, and the class of each value."""
    classes = _listed(analysis, all_splits(analysis, answers)[-1])
    members = _least_members(classes)
    joins = Joins([[classes[analysis.joins.join(u, v)] for v in members] for u in members])
    maps = {}
    for name in analysis.statements():
        values = analysis.map_of(name)
        maps[name] = [classes[values[u]] for u in members]
    least = Analysis(joins, maps, begin=classes[analysis.begin])
    return (least, [answers[u] for u in members], classes)


def _all_pairs(many):
    """The ascending list of the tuples (i, j) of two of so many numbers, i less than j."""
    return [(i, j) for i in range(many) for j in range(i + 1, many)]


def least_paper(analysis, answers):
    """The class of each value, and for each two classes a context that parts them."""
    splits = all_splits(analysis, answers)
    steps = all_steps(analysis)
    classes = _listed(analysis, splits[-1])
    members = _least_members(classes)
    pairs = _all_pairs(len(members))
    return (classes, [(i, j, least_context(splits, steps, members[i], members[j])) for i, j in pairs])


def _are_classes(analysis, thing):
    """Whether thing is a list with None for each value that does not come, and the integers from 0 to some number."""
    if not isinstance(thing, list) or len(thing) != len(analysis):
        return False
    coming = {value: True for value in analysis.coming()}
    for value, number in enumerate(thing):
        if value in coming and not is_integer(number):
            return False
        if value not in coming and number is not None:
            return False
    numbers = sorted({thing[value] for value in coming})
    return numbers == list(range(len(numbers)))


def _are_kept(steps, answers, classes):
    """Whether values of one class have equal answers, and each step takes them to values of one class."""
    firsts = {}
    for value, number in enumerate(classes):
        if number is not None:
            first = firsts.setdefault(number, value)
            if answers[value] != answers[first]:
                return False
            if not all([classes[to[value]] == classes[to[first]] for _, to in steps]):
                return False
    return True


def _are_contexts(steps, answers, classes, thing):
    """Whether thing is a list of tuples (i, j, context) for each two classes, ordered, with contexts that part them."""
    members = _least_members(classes)
    pairs = _all_pairs(len(members))
    if not isinstance(thing, list) or len(thing) != len(pairs):
        return False
    for (i, j), row in zip(pairs, thing):
        if not isinstance(row, tuple) or len(row) != 3 or not is_pair(len(members), len(members), row[:2]):
            return False
        if row[:2] != (i, j) or not parts_by(steps, answers, members[i], members[j], row[2]):
            return False
    return True


def is_least_paper(analysis, answers, thing):
    """Whether thing is a tuple (classes, contexts) that shows which values are one for a question."""
    if not isinstance(thing, tuple) or len(thing) != 2 or not _are_classes(analysis, thing[0]):
        return False
    steps = all_steps(analysis)
    classes, contexts = thing
    return _are_kept(steps, answers, classes) and _are_contexts(steps, answers, classes, contexts)


def onto(one, mine, other, its, *, most=600):
    """For each value of other the class of the values of one with which it makes pairs that come."""
    told = are_alike(one, mine, other, its, most=most)
    if told[0] == "parted":
        raise Unlike()
    classes = all_splits(one, mine)[-1]
    found = [None] * len(other)
    for u, v in told[1]:
        found[v] = classes[u]
    return found


def stands_for(analysis, answers, name, other):
    """Whether a statement may get another one instead and no answer changes; if not, where it does."""
    ours, theirs = analysis.map_of(name), analysis.map_of(other)
    splits = all_splits(analysis, answers)
    steps = all_steps(analysis)
    for value in analysis.coming():
        context = least_context(splits, steps, ours[value], theirs[value])
        if context is not None:
            return ("not", value, context)
    return ("always",)
