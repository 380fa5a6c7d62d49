"""The program with the fewest places, and of these with the fewest edges, that has places alike to some [100]."""

from factflows.fits import check_place, check_reached
from factflows.follows import follow_of, reached_into
from factflows.programs import Program


def _least_alike(places, within):
    """For each of some ascending places the least one that is alike to it; within has the pairs of which the first
    place is within the second one."""
    least = {}
    heads = []
    for place in places:
        alike = [head for head in heads if (place, head) in within and (head, place) in within]
        if not alike:
            heads.append(place)
        least[place] = alike[0] if alike else place
    return least


def _highest_sources(into, place, least, within):
    """The tuples (k, s) of the edges into a place without those beside which a greater one stands; each k is the least
    one that is alike to it."""
    sources = sorted({(least[k], s) for k, s in into[place]})
    found = []
    for k, s in sources:
        if not any([name == s and other != k and (k, other) in within for other, name in sources]):
            found.append((k, s))
    return found


def small_program(program, asked):
    """The least program that has places alike to those asked for, and these places."""
    _check_asked([(program, asked)])
    within = {pair: True for pair in follow_of(program, program)}
    into = reached_into(program)
    least = _least_alike(program.reached(), within)
    needed = {}
    waiting = [least[place] for place in asked]
    while waiting:
        place = waiting.pop()
        if place not in needed:
            needed[place] = _highest_sources(into, place, least, within)
            waiting.extend([k for k, _ in needed[place]])
    numbers = {place: at for at, place in enumerate(sorted(needed))}
    begins = [numbers[place] for place in program.begins() if place in numbers]
    edges = [(numbers[k], s, numbers[place]) for place in needed for k, s in needed[place]]
    return (Program(len(numbers), begins, edges), [numbers[least[place]] for place in asked])


def are_like_places(one, places, other, others):
    """Whether each of some places is alike to that of others with the same index."""
    _check_asked([(one, places), (other, others)])
    within = {pair: True for pair in follow_of(one, other)}
    back = {pair: True for pair in follow_of(other, one)}
    return all([(m, n) in within and (n, m) in back for m, n in zip(places, others)])


def _check_asked(rows):
    """Raise NoPlace, then Unreached, for the first place that is not there; rows are tuples (program, places)."""
    for program, places in rows:
        for place in places:
            check_place(program, place)
    for program, places in rows:
        check_reached(program, places)
