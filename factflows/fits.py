"""What is asked of an analysis, a program and a place that are taken together [4]."""

from factflows.errors import NoPlace, NoStatement
from factflows.kinds import is_number


def check_fits(analysis, program):
    """Raise NoStatement for the least statement of the program that the analysis lacks."""
    known = analysis.statements()
    for name in program.statements():
        if name not in known:
            raise NoStatement(name)


def check_place(program, place):
    """Raise NoPlace if the program has no such place."""
    if not is_number(program.places, place):
        raise NoPlace(place)


def all_maps(analysis):
    """The maps of all statements by their names."""
    return {name: analysis.map_of(name) for name in analysis.statements()}


def all_outs(program):
    """For each place the tuples (s, n) of the edges that lead from it."""
    return [program.out_of(place) for place in range(program.places)]
