"""What is asked of analyses, machines, programs and places that are taken together [4]."""

from factflows.errors import NoPlace, NoStatement, Unlike, Unreached
from factflows.kinds import is_number


def check_fits(analysis, program):
    """Raise NoStatement for the least statement of the program that the analysis, or the machine, lacks."""
    known = analysis.statements()
    for name in program.statements():
        if name not in known:
            raise NoStatement(name)


def check_place(program, place):
    """Raise NoPlace if the program has no such place."""
    if not is_number(program.places, place):
        raise NoPlace(place)


def check_reached(program, places):
    """Raise Unreached for the first of some places that is not reached."""
    reached = {place: True for place in program.reached()}
    for place in places:
        if place not in reached:
            raise Unreached(place)


def check_places(one, place, other, there):
    """Raise NoPlace, then Unreached, for the first of two places of two programs that is not there."""
    check_place(one, place)
    check_place(other, there)
    check_reached(one, [place])
    check_reached(other, [there])


def check_statements(one, other):
    """Raise Unlike if two analyses, or an analysis and a machine, have not the same statements."""
    if one.statements() != other.statements():
        raise Unlike()


def all_maps(analysis):
    """The maps of all statements by their names."""
    return {name: analysis.map_of(name) for name in analysis.statements()}


def all_outs(program):
    """For each place the tuples (s, n) of the edges that lead from it."""
    return [program.out_of(place) for place in range(program.places)]


def named_outs(program):
    """For each place a dict: to each statement that leads from it the places to which it does so."""
    rows = [{} for _ in range(program.places)]
    for m, s, n in program.edges():
        rows[m].setdefault(s, []).append(n)
    return rows


def led_to(outs, places, name):
    """The ascending tuple of the places to which a statement leads from some places; outs is named_outs."""
    return tuple(sorted({to for place in places for to in outs[place].get(name, [])}))
