"""The pairs of the facts that two analyses have at the same places, and programs that show them [60] to [62]."""

from factflows.errors import TooMany
from factflows.fits import all_maps, check_statements
from factflows.kinds import all_differ, is_pair
from factflows.programs import Program


def _joiner(one, other):
    """The function that tells the pair of the joins of two pairs."""
    ours, theirs = one.joins.rows(), other.joins.rows()
    return lambda pair, more: (ours[pair[0]][more[0]], theirs[pair[1]][more[1]])


def _doer(one, other):
    """The function that tells the pair of what a statement makes of a pair."""
    ours, theirs = all_maps(one), all_maps(other)
    return lambda name, pair: (ours[name][pair[0]], theirs[name][pair[1]])


def _bring(made, way, came, joined):
    """Add a pair to those that came, and all joins with them; tell which ones are new.

    came tells how each pair comes: ("begin",), ("do", pair, statement) or ("join", pair, pair). As it has the joins of
    each two of its pairs before, it has them behind, too.
    """
    fresh = [made]
    ways = {made: way}
    for pair in came:
        more = joined(pair, made)
        if more not in came and more not in ways:
            ways[more] = ("join", pair, made)
            fresh.append(more)
    for pair in fresh:
        came[pair] = ways[pair]
    return fresh


def _found_layers(one, other, most):
    """The layers of the pairs that come, each ascending, and how each pair comes, as _bring tells."""
    check_statements(one, other)
    joined, done = _joiner(one, other), _doer(one, other)
    begin = (one.begin, other.begin)
    came = {begin: ("begin",)}
    layers = []
    layer = [begin]
    while layer:
        layers.append(sorted(layer))
        layer = []
        for pair in layers[-1]:
            for name in one.statements():
                made = done(name, pair)
                if made not in came:
                    layer.extend(_bring(made, ("do", pair, name), came, joined))
                    if len(came) > most:
                        raise TooMany(most)
    return (layers, came)


def pair_list(one, other, *, most=600):
    """All pairs that come."""
    _, came = _found_layers(one, other, most)
    return sorted(came)


def pair_layers(one, other, *, most=600):
    """The pairs with the layers 0, 1, 2, .."""
    layers, _ = _found_layers(one, other, most)
    return layers


def is_closed(one, other, thing):
    """Whether thing is a list of different pairs that has the pair of both begins, and what comes of its pairs."""
    check_statements(one, other)
    if not isinstance(thing, list) or not all([is_pair(len(one), len(other), pair) for pair in thing]):
        return False
    pairs = {pair: True for pair in thing}
    if not all_differ(thing) or (one.begin, other.begin) not in pairs:
        return False
    done, joined = _doer(one, other), _joiner(one, other)
    if not all([done(name, pair) in pairs for pair in thing for name in one.statements()]):
        return False
    came = {}
    for pair in thing:
        # Joins with what is a join of others already are joins of those: so most pairs need not be brought.
        if pair not in came and not all([more in pairs for more in _bring(pair, None, came, joined)]):
            return False
    return True


def _sources(pair, came):
    """Whether a begin place is among what makes a pair by joins, and the tuples (pair, statement) that are."""
    is_begin = False
    found = {}
    waiting = [pair]
    while waiting:
        way = came[waiting.pop()]
        if way[0] == "begin":
            is_begin = True
        elif way[0] == "do":
            found[(way[1], way[2])] = True
        else:
            waiting.extend([way[1], way[2]])
    return (is_begin, list(found))


def _shown(pair, came):
    """A program without loops, with a place for each pair that is needed for a pair, and the place of this one."""
    needed = {pair: _sources(pair, came)}
    waiting = [pair]
    while waiting:
        _, ways = needed[waiting.pop()]
        for source, _ in ways:
            if source not in needed:
                needed[source] = _sources(source, came)
                waiting.append(source)
    numbers = {source: at for at, source in enumerate(needed)}
    begins = [numbers[to] for to in needed if needed[to][0]]
    edges = [(numbers[source], s, numbers[to]) for to in needed for source, s in needed[to][1]]
    return (Program(len(needed), begins, edges), numbers[pair])


def made_program(one, other, pair, *, most=600):
    """None if a pair does not come, otherwise a program as its layer asks for, and a place that has the pair."""
    _, came = _found_layers(one, other, most)
    return _shown(pair, came) if pair in came else None


def holds_for(one, other, relation, *, most=600):
    """Whether all pairs that come are in a relation: with these pairs, or with the first that is not."""
    layers, came = _found_layers(one, other, most)
    related = {pair: True for pair in relation}
    for layer in layers:
        for pair in layer:
            if pair not in related:
                program, place = _shown(pair, came)
                return ("breaks", pair, program, place)
    return ("holds", sorted(came))


def are_alike(one, mine, other, its, *, most=600):
    """Whether two analyses are alike for their questions: with all pairs that come, or with one that parts them."""
    equal = [(u, v) for u in range(len(one)) for v in range(len(other)) if mine[u] == its[v]]
    told = holds_for(one, other, equal, most=most)
    word = "alike" if told[0] == "holds" else "parted"
    return (word,) + told[1:]
