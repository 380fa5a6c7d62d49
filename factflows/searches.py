"""Searches over states from which names lead on to other states."""

from factflows.errors import TooMany


def ways_from(starts, further, most):
    """All states to which one comes from some, each with the tuples (name, state) that further tells of it.

    It raises TooMany if there are more than most; most is None where any number will do.
    """
    ways = {}
    found = {state: True for state in starts}
    waiting = list(found)
    while waiting:
        if most is not None and len(found) > most:
            raise TooMany(most)
        state = waiting.pop()
        ways[state] = further(state)
        for _, to in ways[state]:
            if to not in found:
                found[to] = True
                waiting.append(to)
    return ways


def _next_level(level, came, ways):
    """The states that come first behind those of a level, with the rank of the words to them.

    The words to the states of one level have one length, and a level tells for each state the
    rank of the least word to it among these: so words need not be compared whole. came is told
    how each state comes.
    """
    least = {}
    for before in level:
        for name, to in ways[before]:
            way = (level[before], name)
            if to not in came and (to not in least or way < least[to][0]):
                least[to] = (way, before)
    ordered = sorted({way for way, _ in least.values()})
    ranks = {way: at for at, way in enumerate(ordered)}
    for to in least:
        way, before = least[to]
        came[to] = (before, way[1])
    return {to: ranks[least[to][0]] for to in least}


def _word_behind(came, state):
    """The word that led to a state."""
    names = []
    while came[state] is not None:
        state, name = came[state]
        names.append(name)
    return tuple(reversed(names))


def least_word(starts, ways, goals):
    """The least of the shortest words that lead from some states to one of the goals, keys of a dict, or None."""
    level = {state: 0 for state in starts}
    came = {state: None for state in level}
    while level:
        met = [(level[state], state) for state in level if state in goals]
        if met:
            return _word_behind(came, min(met)[1])
        level = _next_level(level, came, ways)
    return None
