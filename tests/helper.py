"""What several tests share: dice without chance, examples, odd values, and slow reckonings."""

import copy
from itertools import product

from factflows.analyses import Analysis
from factflows.errors import Wrong
from factflows.joins import Joins, chain_joins, union_joins
from factflows.programs import Program

FORK = [[0, 2, 2], [2, 1, 2], [2, 2, 2]]


def fork():
    return Joins(FORK)


def parity():
    return Analysis(fork(), {"even": [0, 0, 2], "flip": [1, 0, 2]})


def parity_program():
    return Program(4, [0], [(0, "flip", 1), (0, "even", 1), (1, "even", 2), (3, "flip", 2)])


class Dice:
    """Numbers that look like chance, the same in each run."""

    def __init__(self, seed):
        self.state = seed * 2654435761 + 12345

    def below(self, many):
        self.state = (self.state * 6364136223846793005 + 1442695040888963407) % 2 ** 64
        return (self.state >> 33) % many

    def pick(self, things):
        return things[self.below(len(things))]

    def shuffled(self, things):
        left = list(things)
        return [left.pop(self.below(len(left))) for _ in things]


def nested(depth, build):
    thing = build([])
    for _ in range(depth - 1):
        thing = build([thing])
    return thing


def odd_values():
    """Values of many kinds, none of which is a good argument where lists of this package's kinds are asked."""
    return [
        None, True, False, -1, -2 ** 80, 2 ** 80, "", "0", "a", "begin", "toolongname", b"a", b"",
        (), {}, (0,), (True,), {"a": 1}, {1: 2}, {None: [0]}, {("a",): 1}, {0}, frozenset([1]), object(), len, int,
        Joins, Joins([[0]]), Analysis(Joins([[0]]), {}), Program(1, [0], []), Wrong(0), range(3), Ellipsis,
        nested(20, tuple), nested(20, list), {"a": {"b": {"c": []}}}, [[[0]]], [None], ["a"], [True, False],
        list(range(-10000, 9990)), "x" * 5000,
    ]


def stays(test, things, call):
    """Call, and see that none of the things that are handed in is changed by it."""
    before = [repr(thing) for thing in things]
    result = call()
    test.assertEqual([repr(thing) for thing in things], before)
    return result


def spoil(thing):
    """Change a returned list or dict as far as it goes."""
    if isinstance(thing, list):
        for part in thing:
            spoil(part)
        thing.append("spoilt")
        thing.reverse()
    elif isinstance(thing, dict):
        for part in list(thing.values()):
            spoil(part)
        thing.clear()
    elif isinstance(thing, tuple):
        for part in thing:
            spoil(part)


def asked_often(test, make, asks):
    """Each question is asked first of a fresh object, then of one that is asked all, in both orders."""
    firsts = [copy.deepcopy(ask(make())) for ask in asks]
    one = make()
    for order in (range(len(asks)), reversed(range(len(asks)))):
        for at in order:
            answer = asks[at](one)
            test.assertEqual(answer, firsts[at])
            test.assertIs(type(answer), type(firsts[at]))
            spoil(answer)
            test.assertEqual(asks[at](one), firsts[at])
    test.assertEqual(one, make())


def no_list_twice(test, thing, seen=None):
    """No list stands twice in a result."""
    seen = [] if seen is None else seen
    if isinstance(thing, (list, tuple)):
        if isinstance(thing, list):
            test.assertFalse(any(thing is other for other in seen))
            seen.append(thing)
        for part in thing:
            no_list_twice(test, part, seen)


# Joins, maps, analyses and programs for trials


def some_rows(dice, most=8):
    """Rows of Joins: some sets closed under union, in a shuffled order."""
    while True:
        sets = {dice.below(32) & dice.below(32) for _ in range(1 + dice.below(6))}
        while True:
            more = {u | v for u in sets for v in sets}
            if more == sets:
                break
            sets = more
        if len(sets) <= most and (len(sets) > 2 or dice.below(4) == 0):
            order = dice.shuffled(sorted(sets))
            return [[order.index(u | v) for v in order] for u in order]


def some_rising(dice, rows):
    """A map that rises: a constant or each value itself, joined with something above some values."""
    always = low_value(dice, rows)
    values = [always] * len(rows) if dice.below(4) else list(range(len(rows)))
    for _ in range(dice.below(4)):
        # Above the join of two values: so joins are often lost.
        least, there = rows[dice.below(len(rows))][dice.below(len(rows))], dice.below(len(rows))
        values = [rows[value][there] if is_under(rows, least, u) else value for u, value in enumerate(values)]
    return values


def low_value(dice, rows):
    """Of some values the one with the fewest values below it."""
    tried = [dice.below(len(rows)) for _ in range(3)]
    return min(tried, key=lambda v: sum(is_under(rows, u, v) for u in range(len(rows))))


def some_analysis(dice, names, most=8):
    rows = some_rows(dice, most)
    maps = {name: some_rising(dice, rows) for name in dice.shuffled(names)}
    return Analysis(Joins(rows), maps, begin=low_value(dice, rows))


def keeping_analysis(dice, names):
    """An analysis that keeps joins: chains, or sets of digits moved digit by digit; the numbers are shuffled."""
    if dice.below(2):
        many = 2 + dice.below(5)
        maps = {name: sorted(dice.below(many) for _ in range(many)) for name in names}
        one = Analysis(chain_joins(many), maps, begin=min(dice.below(many), dice.below(many)))
    else:
        digits = 1 + dice.below(3)
        maps = {}
        for name in names:
            goes = [dice.below(1 << digits) & dice.below(1 << digits) for _ in range(digits)]
            always = dice.pick([0, 0, 0, dice.below(1 << digits)])
            maps[name] = [digits_moved(goes, always, value) for value in range(1 << digits)]
        one = Analysis(union_joins(digits), maps, begin=dice.below(1 << digits) & dice.below(1 << digits))
    return one.moved(dice.shuffled(range(len(one))))


def digits_moved(goes, always, value):
    moved = always
    for at, there in enumerate(goes):
        if value >> at & 1:
            moved |= there
    return moved


def some_program(dice, names, most_places=6, most_edges=16):
    places = 1 + max(dice.below(most_places), dice.below(most_places))
    begins = [dice.below(places) for _ in range(1 + dice.below(2))]
    edges, known = [], list(begins)
    for _ in range(max(dice.below(most_edges + 1), dice.below(most_edges + 1))):
        m = dice.pick(known) if dice.below(4) else dice.below(places)
        edges.append((m, dice.pick(names), dice.below(places)))
        known.append(edges[-1][2])
    return Program(places, begins, edges)


# Slow reckonings


def is_under(rows, u, v):
    return rows[u][v] == v


def slow_reached(program):
    reached = set(program.begins())
    for _ in range(program.places):
        reached |= {n for m, s, n in program.edges() if m in reached}
    return sorted(reached)


def slow_is_solution(analysis, program, values):
    rows = analysis.joins.rows()
    reached = slow_reached(program)
    if [place for place, value in enumerate(values) if value is not None] != reached:
        return False
    for place in program.begins():
        if not is_under(rows, analysis.begin, values[place]):
            return False
    for m, s, n in program.edges():
        if m in reached and not is_under(rows, analysis.map_of(s)[values[m]], values[n]):
            return False
    return True


def slow_facts(analysis, program):
    """Among all choices of values the one that is below all others; only for few places and values."""
    rows = analysis.joins.rows()
    reached = slow_reached(program)
    choices = [range(len(rows)) if place in reached else [None] for place in range(program.places)]
    right = [list(values) for values in product(*choices) if slow_is_solution(analysis, program, values)]
    least = [one for one in right if all(slow_are_under(rows, one, other) for other in right)]
    assert len(least) == 1
    return least[0]


def slow_are_under(rows, ones, others):
    return all(u is None or is_under(rows, u, v) for u, v in zip(ones, others))


def swept_facts(analysis, program):
    """The facts by sweeps over all edges until nothing changes."""
    rows = analysis.joins.rows()
    facts = [analysis.begin if place in program.begins() else None for place in range(program.places)]
    while True:
        before = list(facts)
        for m, s, n in reversed(program.edges()):
            if facts[m] is not None:
                brought = analysis.do((s,), value=facts[m])
                facts[n] = brought if facts[n] is None else rows[facts[n]][brought]
        if facts == before:
            return facts


def swept_path_values(analysis, program):
    """The ascending lists of path values of all places, by sweeps."""
    known = {(place, analysis.begin) for place in program.begins()}
    while True:
        more = known | {(n, analysis.map_of(s)[v]) for m, s, n in program.edges() for p, v in known if p == m}
        if more == known:
            return [sorted(v for p, v in known if p == place) for place in range(program.places)]
        known = more


def places_behind(program, word):
    """The places to which paths with a word lead."""
    places = set(program.begins())
    for name in word:
        places = {n for m, s, n in program.edges() if m in places and s == name}
    return sorted(places)


def slow_words(program, place, length):
    words = product(program.statements(), repeat=length)
    return [word for word in words if place in places_behind(program, word)]


def slow_word_to(analysis, program, place, value, longest):
    for length in range(longest + 1):
        for word in slow_words(program, place, length):
            if analysis.do(word) == value:
                return word
    return None
