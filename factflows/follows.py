"""Followings of two programs, and the ranks of the pairs that are in none [50] [51]."""

from factflows.fits import all_outs, check_places, named_outs
from factflows.kinds import all_differ, is_integer, is_name, is_number, is_pair


def reached_into(program):
    """For each reached place the tuples (k, s) of the edges that lead to it from reached places."""
    reached = {place: True for place in program.reached()}
    return {place: [(k, s) for k, s in program.into(place) if k in reached] for place in reached}


def reached_from(program):
    """For each tuple (s, n) the reached places from which the statement s leads to the place n."""
    into = reached_into(program)
    found = {}
    for n in into:
        for k, s in into[n]:
            found.setdefault((s, n), []).append(k)
    return found


def _left_pairs(one, ways, other):
    """For each statement s that leads from a reached place k of one, and each reached place n of other: how many
    places of other the statement leads from to n. At each of these k may be followed."""
    sources = reached_from(other)
    there = other.reached()
    return {(k, s, n): len(sources.get((s, n), [])) for k in one.reached() for s in ways[k] for n in there}


def _count_out(level, left, outs):
    """Take the pairs of a level out of what is left, and tell where nothing is left then."""
    emptied = []
    for k, source in level:
        for s, n in outs[source]:
            if (k, s, n) in left:
                left[(k, s, n)] -= 1
                if left[(k, s, n)] == 0:
                    emptied.append((k, s, n))
    return emptied


def _next_level(emptied, ways, fallen, rank):
    """The pairs that get a rank because nothing is left somewhere; fallen is told of them."""
    level = []
    # In ascending order, so that the first (k, s) by which a pair falls is the least one.
    for k, s, n in sorted(emptied):
        for m in ways[k][s]:
            if (m, n) not in fallen:
                fallen[(m, n)] = (rank, (k, s))
                level.append((m, n))
    return level


def fallen_pairs(one, other):
    """For each pair (m, n) of reached places such that n does not follow m the tuple (rank, why) [51]."""
    ways = named_outs(one)
    outs = all_outs(other)
    begins = other.begins()
    fallen = {(m, n): (0, None) for m in one.begins() for n in other.reached() if n not in begins}
    left = _left_pairs(one, ways, other)
    level = list(fallen)
    emptied = [at for at in left if left[at] == 0]
    rank = 0
    while level or emptied:
        rank += 1
        emptied.extend(_count_out(level, left, outs))
        level = _next_level(emptied, ways, fallen, rank)
        emptied = []
    return fallen


def follow_of(one, other):
    """The greatest following: all pairs (m, n) such that n follows m."""
    fallen = fallen_pairs(one, other)
    there = other.reached()
    return [(m, n) for m in one.reached() for n in there if (m, n) not in fallen]


def _are_reached_pairs(one, other, things):
    """Whether all of some things are pairs of reached places, and no two of them are equal."""
    if not all([is_pair(one.places, other.places, thing) for thing in things]):
        return False
    reached = {place: True for place in one.reached()}
    there = {place: True for place in other.reached()}
    return all([m in reached and n in there for m, n in things]) and all_differ(things)


def is_follow(one, other, thing):
    """Whether thing is a list of different pairs that is a following."""
    if not isinstance(thing, list) or not _are_reached_pairs(one, other, thing):
        return False
    pairs = {pair: True for pair in thing}
    begins, there = one.begins(), other.begins()
    into = reached_into(one)
    sources = reached_from(other)
    for m, n in thing:
        if m in begins and n not in there:
            return False
        for k, s in into[m]:
            if not any([(k, source) in pairs for source in sources.get((s, n), [])]):
                return False
    return True


def is_within(one, place, other, there):
    """Whether in each analysis the fact of a place of one is below that of a place of other."""
    check_places(one, place, other, there)
    return (place, there) not in fallen_pairs(one, other)


def rank_rows(one, other):
    """The tuples (m, n, rank, why) of all pairs of reached places such that n does not follow m."""
    fallen = fallen_pairs(one, other)
    return [pair + fallen[pair] for pair in sorted(fallen)]


def _is_rank_row(one, thing):
    """Whether thing has the form of a tuple (m, n, rank, why), the pair (m, n) left aside."""
    if not isinstance(thing, tuple) or len(thing) != 4:
        return False
    rank, why = thing[2], thing[3]
    if not is_integer(rank):
        return False
    if why is None:
        return rank == 0
    if not isinstance(why, tuple) or len(why) != 2:
        return False
    return rank > 0 and is_number(one.places, why[0]) and is_name(why[1])


def are_ranks(one, other, thing):
    """Whether thing is a list of tuples (m, n, rank, why) of different pairs, each of which is right."""
    if not isinstance(thing, list) or not all([_is_rank_row(one, row) for row in thing]):
        return False
    if not _are_reached_pairs(one, other, [row[:2] for row in thing]):
        return False
    ranks = {(m, n): rank for m, n, rank, _ in thing}
    begins, there = one.begins(), other.begins()
    into = reached_into(one)
    sources = reached_from(other)
    for m, n, rank, why in thing:
        if why is None:
            if m not in begins or n in there:
                return False
        elif why not in into[m]:
            return False
        elif not all([ranks.get((why[0], source), rank) < rank for source in sources.get((why[1], n), [])]):
            return False
    return True
