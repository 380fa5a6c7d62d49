"""What single paths know: path values, path facts and the words of paths [42] [43]."""

from factflows.facts import facts_of
from factflows.fits import all_maps, all_outs, check_fits, check_place


def _all_path_values(analysis, program):
    """For each place the ascending list of its path values."""
    maps = all_maps(analysis)
    outs = all_outs(program)
    found = [{} for _ in range(program.places)]
    waiting = [(place, analysis.begin) for place in program.begins()]
    for place, value in waiting:
        found[place][value] = True
    while waiting:
        place, value = waiting.pop()
        for name, to in outs[place]:
            made = maps[name][value]
            if made not in found[to]:
                found[to][made] = True
                waiting.append((to, made))
    return [sorted(values) for values in found]


def path_values(analysis, program, place):
    """The different path values of the paths to a place."""
    check_fits(analysis, program)
    check_place(program, place)
    return _all_path_values(analysis, program)[place]


def _joined(analysis, values):
    return analysis.joins.join_all(values) if values else None


def path_fact(analysis, program, place):
    """The join of all path values of a place, None if it is not reached."""
    return _joined(analysis, path_values(analysis, program, place))


def lost(analysis, program):
    """The tuples (place, fact, path fact) of the places where these two are unlike."""
    facts = facts_of(analysis, program)
    values = _all_path_values(analysis, program)
    found = [(place, facts[place], _joined(analysis, values[place])) for place in program.reached()]
    return [(place, fact, known) for place, fact, known in found if fact != known]


def _further(level, came, maps, outs):
    """The states that come first behind those of a level, with the rank of the words to them.

    A state is a tuple (place, value). The words to the states of one level have one length, and
    a level tells for each state the rank of the least word to it among these: so words need
    not be compared whole. came is told how each state comes.
    """
    least = {}
    for place, value in level:
        for name, to in outs[place]:
            state = (to, maps[name][value])
            way = (level[(place, value)], name)
            if state not in came and (state not in least or way < least[state][0]):
                least[state] = (way, (place, value))
    ways = sorted({way for way, _ in least.values()})
    ranks = {way: at for at, way in enumerate(ways)}
    for state in least:
        way, before = least[state]
        came[state] = (before, way[1])
    return {state: ranks[least[state][0]] for state in least}


def _word_behind(came, state):
    """The word that led to a state."""
    names = []
    while came[state] is not None:
        state, name = came[state]
        names.append(name)
    return tuple(reversed(names))


def word_to(analysis, program, place, value):
    """The least of the shortest words of paths to a place that have a path value, or None."""
    check_fits(analysis, program)
    check_place(program, place)
    maps = all_maps(analysis)
    outs = all_outs(program)
    level = {(begin, analysis.begin): 0 for begin in program.begins()}
    came = {state: None for state in level}
    while level and (place, value) not in came:
        level = _further(level, came, maps, outs)
    return _word_behind(came, (place, value)) if (place, value) in came else None


def _leading_in(program, place, length):
    """For each number of edges up to length the places from which so many lead to a place."""
    layers = [{place: True}]
    for _ in range(length):
        nearer = layers[-1]
        layers.append({m: True for m, _, n in program.edges() if n in nearer})
    return layers


def _ways_on(outs, places, leading):
    """By statement, the places among the leading ones to which it leads from some places."""
    ways = {}
    for place in places:
        for name, to in outs[place]:
            if to in leading:
                ways.setdefault(name, {})[to] = True
    return ways


def words_to(program, place, length):
    """The words of paths to a place that have so many statements, in ascending order."""
    check_place(program, place)
    outs = all_outs(program)
    leading = _leading_in(program, place, length)
    begins = [begin for begin in program.begins() if begin in leading[length]]
    waiting = [((), begins)] if begins else []
    while waiting:
        word, places = waiting.pop()
        if len(word) == length:
            yield word
        else:
            ways = _ways_on(outs, places, leading[length - len(word) - 1])
            # The last one is taken first, so the least one stands last.
            for name in sorted(ways, reverse=True):
                waiting.append((word + (name,), list(ways[name])))
