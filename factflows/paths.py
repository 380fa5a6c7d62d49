"""What single paths know: path values, path facts and the words of paths [42] [43]."""

from factflows.facts import facts_of
from factflows.fits import all_maps, all_outs, check_fits, check_place
from factflows.searches import least_word, ways_from


def _starts(analysis, program):
    """The states, tuples (place, value), of the paths without edges."""
    return [(place, analysis.begin) for place in program.begins()]


def _all_ways(analysis, program):
    """The states that come along paths, each with the tuples (name, state) to which it leads."""
    maps = all_maps(analysis)
    outs = all_outs(program)

    def further(state):
        at, value = state
        return [(name, (to, maps[name][value])) for name, to in outs[at]]

    return ways_from(_starts(analysis, program), further, None)


def _all_path_values(analysis, program):
    """For each place the ascending list of its path values."""
    found = [[] for _ in range(program.places)]
    for place, value in sorted(_all_ways(analysis, program)):
        found[place].append(value)
    return found


def path_values(analysis, program, place):
    """The different path values of the paths to a place."""
    check_fits(analysis, program)
    check_place(program, place)
    return _all_path_values(analysis, program)[place]


def _joined(analysis, values):
    return analysis.joins.join_all(values) if values else None


def path_fact(analysis, program, place):
    """The join of all path values of a place, None if it is not reached."""
    return _joined(analysis, path_values(analysis, program, place))


def lost(analysis, program):
    """The tuples (place, fact, path fact) of the places where these two are unlike."""
    facts = facts_of(analysis, program)
    values = _all_path_values(analysis, program)
    found = [(place, facts[place], _joined(analysis, values[place])) for place in program.reached()]
    return [(place, fact, known) for place, fact, known in found if fact != known]


def word_to(analysis, program, place, value):
    """The least of the shortest words of paths to a place that have a path value, or None."""
    check_fits(analysis, program)
    check_place(program, place)
    return least_word(_starts(analysis, program), _all_ways(analysis, program), {(place, value): True})


def _leading_in(program, place, length):
    """For each number of edges up to length the places from which so many lead to a place."""
    layers = [{place: True}]
    for _ in range(length):
        nearer = layers[-1]
        layers.append({m: True for m, _, n in program.edges() if n in nearer})
    return layers


def _ways_on(outs, places, leading):
    """By statement, the places among the leading ones to which it leads from some places."""
    ways = {}
    for place in places:
        for name, to in outs[place]:
            if to in leading:
                ways.setdefault(name, {})[to] = True
    return ways


def words_to(program, place, length):
    """The words of paths to a place that have so many statements, in ascending order."""
    check_place(program, place)
    outs = all_outs(program)
    leading = _leading_in(program, place, length)
    begins = [begin for begin in program.begins() if begin in leading[length]]
    waiting = [((), begins)] if begins else []
    while waiting:
        word, places = waiting.pop()
        if len(word) == length:
            yield word
        else:
            ways = _ways_on(outs, places, leading[length - len(word) - 1])
            # The last one is taken first, so the least one stands last.
            for name in sorted(ways, reverse=True):
                waiting.append((word + (name,), list(ways[name])))
