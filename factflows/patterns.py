"""Patterns, which a place has and another one lacks, and programs that show the same [52] [53]."""

from factflows.fits import check_place, check_places
from factflows.follows import fallen_pairs, reached_from, reached_into
from factflows.kinds import is_name, is_number
from factflows.programs import Program

BARE = (False, ())


def _is_branch(many, thing):
    if not isinstance(thing, tuple) or len(thing) != 2:
        return False
    return is_name(thing[0]) and is_number(many, thing[1])


def _is_item(at, thing):
    """Whether thing is an item with this index of a pattern."""
    if not isinstance(thing, tuple) or len(thing) != 2:
        return False
    begins, branches = thing
    if not isinstance(begins, bool) or not isinstance(branches, tuple):
        return False
    if not all([_is_branch(at, branch) for branch in branches]):
        return False
    return all([low < high for low, high in zip(branches, branches[1:])])


def is_pattern(thing):
    """Whether thing is a pattern."""
    if not isinstance(thing, list) or len(thing) == 0:
        return False
    return all([_is_item(at, item) for at, item in enumerate(thing)])


def _has_branches(edges, having, branches):
    """Whether a place, told by the edges into it, has all branches; having tells for each item who has it."""
    for name, index in branches:
        if not any([s == name and k in having[index] for k, s in edges]):
            return False
    return True


def has_pattern(program, place, pattern):
    """Whether a place has a pattern."""
    check_place(program, place)
    into = reached_into(program)
    begins = program.begins()
    having = []
    for is_begin, branches in pattern:
        fitting = [m for m in into if m in begins or not is_begin]
        having.append({m: True for m in fitting if _has_branches(into[m], having, branches)})
    return place in having[-1]


def pattern_depth(pattern):
    """The depth of the last item of a pattern."""
    depths = []
    for _, branches in pattern:
        depths.append(max([depths[index] + 1 for _, index in branches], default=0))
    return depths[-1]


def _rests(pair, fallen, sources):
    """The pairs on which the rank of a pair rests: why names a place k and a statement, by which k leads to the first
    one; of each pair (k, l) in which l leads to the second one by it the rank is less."""
    k, s = fallen[pair][1]
    return [(k, source) for source in sources.get((s, pair[1]), [])]


def _needed(pair, fallen, sources):
    """The pairs with ranks from 1 on, in ascending order of these, on which a rank rests in the end."""
    found = {pair: True}
    waiting = [pair]
    while waiting:
        at = waiting.pop()
        for lower in _rests(at, fallen, sources):
            if lower not in found and fallen[lower][0] > 0:
                found[lower] = True
                waiting.append(lower)
    return [pair for _, pair in sorted([(fallen[lower][0], lower) for lower in found])]


def _parting_item(pair, fallen, sources, numbers):
    """The item that k of the why of a pair has, and that each place lacks from which the statement leads on."""
    rests = _rests(pair, fallen, sources)
    begins = any([fallen[lower][0] == 0 for lower in rests])
    branches = sorted({(fallen[lower][1][1], numbers[lower]) for lower in rests if fallen[lower][0] > 0})
    return (begins, tuple(branches))


def _parting_items(one, place, other, there):
    """None if place is within there; otherwise the items of a pattern that place has and there lacks, each as a tuple
    (k, item) with a place of one that has the item."""
    fallen = fallen_pairs(one, other)
    pair = (place, there)
    if pair not in fallen:
        return None
    rank, why = fallen[pair]
    if rank == 0:
        return [(place, (True, ()))]
    sources = reached_from(other)
    numbers = {}
    known = {}
    for lower in _needed(pair, fallen, sources):
        item = (fallen[lower][1][0], _parting_item(lower, fallen, sources, numbers))
        numbers[lower] = known.setdefault(item, len(known))
    return list(known) + [(place, (False, ((why[1], numbers[pair]),)))]


def pattern_of(one, place, other, there):
    """None if place is within there, otherwise a pattern of the least depth that place has and there lacks."""
    check_places(one, place, other, there)
    items = _parting_items(one, place, other, there)
    return None if items is None else [item for _, item in items]


def _first_edges(program):
    """For each reached place the edge into it, as (m, s), by which it is reached first; None for a begin place."""
    came = {place: None for place in program.begins()}
    waiting = program.begins()
    while waiting:
        behind = []
        for m in waiting:
            for s, n in program.out_of(m):
                if n not in came:
                    came[n] = (m, s)
                    behind.append(n)
        waiting = behind
    return came


def _way_places(came, places):
    """Some places, and those that are passed on the first way to each of them."""
    found = {}
    for place in places:
        at = place
        while at not in found:
            found[at] = True
            if came[at] is not None:
                at = came[at][0]
    return list(found)


def _program_of(items, came):
    """The program with a place for each item (k, item), in which its branches are edges, and the place of the last one.

    Each place is within the k of its item. An item that asks for nothing has the first way to its k instead: there is
    no edge to its place otherwise.
    """
    ways = _way_places(came, [k for k, item in items if item == BARE])
    spots = {k: len(items) + at for at, k in enumerate(ways)}
    homes = [spots[k] if item == BARE else at for at, (k, item) in enumerate(items)]
    begins = [at for at, (_, item) in enumerate(items) if item[0]]
    begins.extend([spots[k] for k in ways if came[k] is None])
    edges = [(homes[index], s, at) for at, (_, item) in enumerate(items) for s, index in item[1]]
    edges.extend([(spots[came[k][0]], came[k][1], spots[k]) for k in ways if came[k] is not None])
    whole = Program(len(items) + len(ways), begins, edges)
    kept = whole.reached()
    return (whole.kept(kept), kept.index(len(items) - 1))


def shown_program(one, place, other, there):
    """None if place is within there; otherwise a program without loops and a place of it that is within place, but
    not within there."""
    check_places(one, place, other, there)
    items = _parting_items(one, place, other, there)
    return None if items is None else _program_of(items, _first_edges(one))
