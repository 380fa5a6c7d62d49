"""The facts of a program by an analysis [40]."""

from factflows.fits import all_maps, all_outs, check_fits
from factflows.kinds import is_number


def joined_to(rows, value, brought):
    """What a place has behind a step: None is the value of a place that has none yet."""
    return brought if value is None else rows[value][brought]


def found_facts(analysis, program):
    """The facts, and the steps [41] by which they are found."""
    rows = analysis.joins.rows()
    maps = all_maps(analysis)
    outs = all_outs(program)
    waiting = program.begins()
    steps = [(place, "begin") for place in waiting]
    facts = [None] * program.places
    for place in waiting:
        facts[place] = analysis.begin
    while waiting:
        changed = {}
        for place in waiting:
            for name, to in outs[place]:
                fact = joined_to(rows, facts[to], maps[name][facts[place]])
                if fact != facts[to]:
                    facts[to] = fact
                    steps.append((to, (place, name)))
                    changed[to] = True
        waiting = list(changed)
    return (facts, steps)


def facts_of(analysis, program):
    """The fact of each place, None for one that is not reached."""
    check_fits(analysis, program)
    facts, _ = found_facts(analysis, program)
    return facts


def _are_values(analysis, program, thing):
    if not isinstance(thing, list) or len(thing) != program.places:
        return False
    reached = {place: True for place in program.reached()}
    for place, value in enumerate(thing):
        if place in reached and not is_number(len(analysis), value):
            return False
        if place not in reached and value is not None:
            return False
    return True


def _holds_begins(analysis, program, values):
    return all([analysis.joins.is_below(analysis.begin, values[place]) for place in program.begins()])


def _holds_edges(analysis, program, values):
    joins = analysis.joins
    maps = all_maps(analysis)
    for m, s, n in program.edges():
        if values[m] is not None and not joins.is_below(maps[s][values[m]], values[n]):
            return False
    return True


def is_solution(analysis, program, thing):
    """Whether thing has a value for each reached place such that nothing is above where it leads."""
    check_fits(analysis, program)
    if not _are_values(analysis, program, thing):
        return False
    return _holds_begins(analysis, program, thing) and _holds_edges(analysis, program, thing)
