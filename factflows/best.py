"""The best values for some states, and the best analysis for a machine [92] [93]."""

from factflows.analyses import Analysis
from factflows.kinds import is_ascending


def are_meanings(joins, machine, thing):
    """Whether thing is a list of what the values of some Joins mean: more states the higher they are."""
    if not isinstance(thing, list) or len(thing) != len(joins):
        return False
    if not all([is_ascending(machine.states, meant) for meant in thing]):
        return False
    for u in range(len(joins)):
        for v in joins.above(u):
            if not all([state in thing[v] for state in thing[u]]):
                return False
    return True


def best_value(joins, meanings, some):
    """The value that means all of some states and is below each other one that does, or None."""
    fitting = [value for value in range(len(joins)) if all([state in meanings[value] for state in some])]
    for value in fitting:
        if all([joins.is_below(value, other) for other in fitting]):
            return value
    return None


def best_of(joins, meanings, machine):
    """The Analysis that takes each value to the best one for where its states lead; None if one is lacking."""
    begin = best_value(joins, meanings, machine.firsts())
    maps = {}
    for name in machine.statements():
        maps[name] = [best_value(joins, meanings, machine.step(list(meant), name)) for meant in meanings]
    if begin is None or any([None in values for values in maps.values()]):
        return None
    return Analysis(joins, maps, begin=begin)
