"""Rises: lists of steps by which the values of places go up to the facts [41]."""

from factflows.facts import facts_of, found_facts, joined_to
from factflows.fits import all_maps, check_fits
from factflows.kinds import is_name, is_number


def rise_of(analysis, program):
    """A rise in which each step changes what its place has."""
    check_fits(analysis, program)
    _, steps = found_facts(analysis, program)
    return steps


def _is_source(many, thing):
    if not isinstance(thing, tuple) or len(thing) != 2:
        return False
    return is_number(many, thing[0]) and is_name(thing[1])


def _are_steps(program, thing):
    """Whether thing is a list of steps of a program, in whatever order."""
    if not isinstance(thing, list):
        return False
    begins = {place: True for place in program.begins()}
    edges = {edge: True for edge in program.edges()}
    for step in thing:
        if not isinstance(step, tuple) or len(step) != 2 or not is_number(program.places, step[0]):
            return False
        place, why = step
        if isinstance(why, str):
            if why != "begin" or place not in begins:
                return False
        elif not _is_source(program.places, why) or (why[0], why[1], place) not in edges:
            return False
    return True


def _risen(analysis, program, steps):
    """The values behind the last step, or None if a step is done ahead of its time."""
    rows = analysis.joins.rows()
    maps = all_maps(analysis)
    values = [None] * program.places
    for place, why in steps:
        if why == "begin":
            brought = analysis.begin
        elif values[why[0]] is None:
            return None
        else:
            brought = maps[why[1]][values[why[0]]]
        values[place] = joined_to(rows, values[place], brought)
    return values


def is_rise(analysis, program, thing):
    """Whether thing is a rise."""
    check_fits(analysis, program)
    if not _are_steps(program, thing):
        return False
    return _risen(analysis, program, thing) == facts_of(analysis, program)
