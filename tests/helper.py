"""What several tests share: dice without chance, examples, odd values, and slow reckonings."""

import copy
from itertools import product

from factflows.analyses import Analysis
from factflows.errors import Wrong
from factflows.joins import Joins, chain_joins, union_joins
from factflows.machines import Machine
from factflows.programs import Program

FORK = [[0, 2, 2], [2, 1, 2], [2, 2, 2]]


def fork():
    return Joins(FORK)


def parity():
    return Analysis(fork(), {"even": [0, 0, 2], "flip": [1, 0, 2]})


def toggle():
    return Machine(2, [0], {"inc": [(0, 1), (1, 0), (1, 1)], "set": [(0, 0), (1, 0)]})


def parity_program():
    return Program(4, [0], [(0, "flip", 1), (0, "even", 1), (1, "even", 2), (3, "flip", 2)])


class Dice:
    """Numbers that look like chance, the same in each run."""

    def __init__(self, seed):
        self.state = seed * 2654435761 + 12345

    def below(self, many):
        self.state = (self.state * 6364136223846793005 + 1442695040888963407) % 2 ** 64
        return (self.state >> 33) % many

    def pick(self, things):
        return things[self.below(len(things))]

    def shuffled(self, things):
        left = list(things)
        return [left.pop(self.below(len(left))) for _ in things]


def nested(depth, build):
    thing = build([])
    for _ in range(depth - 1):
        thing = build([thing])
    return thing


def odd_values():
    """Values of many kinds, none of which is a good argument where lists of this package's kinds are asked."""
    return [
        None, True, False, -1, -2 ** 80, 2 ** 80, "", "0", "a", "begin", "toolongname", b"a", b"",
        (), {}, (0,), (True,), {"a": 1}, {1: 2}, {None: [0]}, {("a",): 1}, {0}, frozenset([1]), object(), len, int,
        Joins, Joins([[0]]), Analysis(Joins([[0]]), {}), Program(1, [0], []), Machine(1, [0], {}), Wrong(0), range(3),
        Ellipsis,
        nested(20, tuple), nested(20, list), {"a": {"b": {"c": []}}}, [[[0]]], [None], ["a"], [True, False],
        list(range(-10000, 9990)), "x" * 5000,
    ]


def stays(test, things, call):
    """Call, and see that none of the things that are handed in is changed by it."""
    before = [repr(thing) for thing in things]
    result = call()
    test.assertEqual([repr(thing) for thing in things], before)
    return result


def spoil(thing):
    """Change a returned list or dict as far as it goes."""
    if isinstance(thing, list):
        for part in thing:
            spoil(part)
        thing.append("spoilt")
        thing.reverse()
    elif isinstance(thing, dict):
        for part in list(thing.values()):
            spoil(part)
        thing.clear()
    elif isinstance(thing, tuple):
        for part in thing:
            spoil(part)


def asked_often(test, make, asks):
    """Each question is asked first of a fresh object, then of one that is asked all, in both orders."""
    firsts = [copy.deepcopy(ask(make())) for ask in asks]
    one = make()
    for order in (range(len(asks)), reversed(range(len(asks)))):
        for at in order:
            answer = asks[at](one)
            test.assertEqual(answer, firsts[at])
            test.assertIs(type(answer), type(firsts[at]))
            spoil(answer)
            test.assertEqual(asks[at](one), firsts[at])
    test.assertEqual(one, make())


def no_list_twice(test, thing, seen=None):
    """No list stands twice in a result."""
    seen = [] if seen is None else seen
    if isinstance(thing, (list, tuple)):
        if isinstance(thing, list):
            test.assertFalse(any(thing is other for other in seen))
            seen.append(thing)
        for part in thing:
            no_list_twice(test, part, seen)


# Joins, maps, analyses and programs for trials


def some_rows(dice, most=8):
    """Rows of Joins: some sets closed under union, in a shuffled order."""
    while True:
        sets = {dice.below(32) & dice.below(32) for _ in range(1 + dice.below(6))}
        while True:
            more = {u | v for u in sets for v in sets}
            if more == sets:
                break
            sets = more
        if len(sets) <= most and (len(sets) > 2 or dice.below(4) == 0):
            order = dice.shuffled(sorted(sets))
            return [[order.index(u | v) for v in order] for u in order]


def some_rising(dice, rows):
    """A map that rises: a constant or each value itself, joined with something above some values."""
    always = low_value(dice, rows)
    values = [always] * len(rows) if dice.below(4) else list(range(len(rows)))
    for _ in range(dice.below(4)):
        # Above the join of two values: so joins are often lost.
        least, there = rows[dice.below(len(rows))][dice.below(len(rows))], dice.below(len(rows))
        values = [rows[value][there] if is_under(rows, least, u) else value for u, value in enumerate(values)]
    return values


def low_value(dice, rows):
    """Of some values the one with the fewest values below it."""
    tried = [dice.below(len(rows)) for _ in range(3)]
    return min(tried, key=lambda v: sum(is_under(rows, u, v) for u in range(len(rows))))


def some_analysis(dice, names, most=8):
    rows = some_rows(dice, most)
    maps = {name: some_rising(dice, rows) for name in dice.shuffled(names)}
    return Analysis(Joins(rows), maps, begin=low_value(dice, rows))


def keeping_analysis(dice, names):
    """An analysis that keeps joins: chains, or sets of digits moved digit by digit; the numbers are shuffled."""
    if dice.below(2):
        many = 2 + dice.below(5)
        maps = {name: sorted(dice.below(many) for _ in range(many)) for name in names}
        one = Analysis(chain_joins(many), maps, begin=min(dice.below(many), dice.below(many)))
    else:
        digits = 1 + dice.below(3)
        maps = {}
        for name in names:
            goes = [dice.below(1 << digits) & dice.below(1 << digits) for _ in range(digits)]
            always = dice.pick([0, 0, 0, dice.below(1 << digits)])
            maps[name] = [digits_moved(goes, always, value) for value in range(1 << digits)]
        one = Analysis(union_joins(digits), maps, begin=dice.below(1 << digits) & dice.below(1 << digits))
    return one.moved(dice.shuffled(range(len(one))))


def digits_moved(goes, always, value):
    moved = always
    for at, there in enumerate(goes):
        if value >> at & 1:
            moved |= there
    return moved


def some_program(dice, names, most_places=6, most_edges=16):
    places = 1 + max(dice.below(most_places), dice.below(most_places))
    begins = [dice.below(places) for _ in range(1 + dice.below(2))]
    edges, known = [], list(begins)
    for _ in range(max(dice.below(most_edges + 1), dice.below(most_edges + 1))):
        m = dice.pick(known) if dice.below(4) else dice.below(places)
        edges.append((m, dice.pick(names), dice.below(places)))
        known.append(edges[-1][2])
    return Program(places, begins, edges)


# Slow reckonings


def is_under(rows, u, v):
    return rows[u][v] == v


def slow_reached(program):
    reached = set(program.begins())
    for _ in range(program.places):
        reached |= {n for m, s, n in program.edges() if m in reached}
    return sorted(reached)


def slow_is_solution(analysis, program, values):
    rows = analysis.joins.rows()
    reached = slow_reached(program)
    if [place for place, value in enumerate(values) if value is not None] != reached:
        return False
    for place in program.begins():
        if not is_under(rows, analysis.begin, values[place]):
            return False
    for m, s, n in program.edges():
        if m in reached and not is_under(rows, analysis.map_of(s)[values[m]], values[n]):
            return False
    return True


def slow_facts(analysis, program):
    """Among all choices of values the one that is below all others; only for few places and values."""
    rows = analysis.joins.rows()
    reached = slow_reached(program)
    choices = [range(len(rows)) if place in reached else [None] for place in range(program.places)]
    right = [list(values) for values in product(*choices) if slow_is_solution(analysis, program, values)]
    least = [one for one in right if all(slow_are_under(rows, one, other) for other in right)]
    assert len(least) == 1
    return least[0]


def slow_are_under(rows, ones, others):
    return all(u is None or is_under(rows, u, v) for u, v in zip(ones, others))


def swept_facts(analysis, program):
    """The facts by sweeps over all edges until nothing changes."""
    rows = analysis.joins.rows()
    facts = [analysis.begin if place in program.begins() else None for place in range(program.places)]
    while True:
        before = list(facts)
        for m, s, n in reversed(program.edges()):
            if facts[m] is not None:
                brought = analysis.do((s,), value=facts[m])
                facts[n] = brought if facts[n] is None else rows[facts[n]][brought]
        if facts == before:
            return facts


def swept_path_values(analysis, program):
    """The ascending lists of path values of all places, by sweeps."""
    known = {(place, analysis.begin) for place in program.begins()}
    while True:
        more = known | {(n, analysis.map_of(s)[v]) for m, s, n in program.edges() for p, v in known if p == m}
        if more == known:
            return [sorted(v for p, v in known if p == place) for place in range(program.places)]
        known = more


def places_behind(program, word):
    """The places to which paths with a word lead."""
    places = set(program.begins())
    for name in word:
        places = {n for m, s, n in program.edges() if m in places and s == name}
    return sorted(places)


def slow_words(program, place, length):
    words = product(program.statements(), repeat=length)
    return [word for word in words if place in places_behind(program, word)]


def slow_word_to(analysis, program, place, value, longest):
    for length in range(longest + 1):
        for word in slow_words(program, place, length):
            if analysis.do(word) == value:
                return word
    return None


# Things spoilt, and questions asked again


def all_spots(thing, path=()):
    """The paths of indices to a thing and to all that is in its lists and tuples."""
    spots = [path]
    if isinstance(thing, (list, tuple)):
        for at, part in enumerate(thing):
            spots += all_spots(part, path + (at,))
    return spots


def changed_at(thing, path, change):
    """A copy of a thing in which the part at a path is changed."""
    if not path:
        return change(thing)
    parts = list(thing)
    parts[path[0]] = changed_at(parts[path[0]], path[1:], change)
    return parts if isinstance(thing, list) else tuple(parts)


def spoilt_part(dice, part):
    """Something near a part: of another kind, or with an item out, more, twice or elsewhere, or another number."""
    if isinstance(part, bool):
        return dice.pick([not part, int(part), None])
    if isinstance(part, int):
        near = [part + 1, part - 1, 0, -1, 2 ** 80, str(part), None, (part,)]
        return dice.pick(near + [bool(part)] * 3 if part in (0, 1) else near)
    if isinstance(part, str):
        return dice.pick([part + "x", "", "A", part.encode(), None, "a", "b", "ab", "do", "join", 0, (part,)])
    if isinstance(part, (list, tuple)):
        return spoilt_row(dice, part)
    return dice.pick([0, False, True, (), []])


def spoilt_row(dice, row):
    kind = list if isinstance(row, list) else tuple
    parts = list(row)
    at, there = dice.below(len(parts) + 1), dice.below(len(parts) + 1)
    way = dice.below(7)
    if way == 0:
        return tuple(row) if kind is list else list(row)
    if way in (1, 2):
        return kind(parts[:at] + parts[at + 1:])
    if way == 3:
        return kind(parts[:at] + parts[at:at + 1] * 2 + parts[at + 1:])
    if way == 4 and parts[at:] and parts[there:]:
        parts[at], parts[there] = parts[there], parts[at]
        return kind(parts)
    if way == 5:
        return kind(parts[:at] + parts[there:there + 1] + parts[at:])
    return kind(parts[:at] + [dice.pick([None, 0, (), (0, 0), "a", [], (0,), (1, 1)])] + parts[at:])


def spoilt(dice, thing):
    """A thing spoilt at one or two places; by chance it may be right again."""
    for _ in range(1 + dice.below(2)):
        thing = changed_at(thing, dice.pick(all_spots(thing)), lambda part: spoilt_part(dice, part))
    return thing


def asked_again(test, ask):
    """Ask, see that no list stands twice in the answer, spoil the answer, and ask again."""
    told = ask()
    wanted = copy.deepcopy(told)
    no_list_twice(test, told)
    spoil(told)
    test.assertEqual(ask(), wanted)
    return wanted


def raised(test, kind, call):
    """The error of a kind that a call raises."""
    with test.assertRaises(kind) as caught:
        call()
    test.assertIs(type(caught.exception), kind)
    return caught.exception


# Two programs


def changed_program(dice, program, names):
    """A program near another one: with edges out, others in, other begin places, or another order of the places."""
    edges = [edge for edge in program.edges() if dice.below(6)]
    for _ in range(dice.below(4)):
        edges.append((dice.below(program.places), dice.pick(names), dice.below(program.places)))
    begins = program.begins() + [dice.below(program.places) for _ in range(dice.below(2))]
    other = Program(program.places, begins, edges)
    return other.moved(dice.shuffled(range(other.places))) if dice.below(2) else other


def some_programs(seed, many, most_places=5, most_edges=12, names=("b", "a", "ab")):
    """Pairs of programs: drawn, changed, and with statements that only one of the two has."""
    dice = Dice(seed)
    for at in range(many):
        one = some_program(dice, list(names), most_places, most_edges)
        if at % 3 == 0:
            theirs = list(names) if at % 2 else list(names[1:]) + ["c"]
            other = some_program(dice, theirs, most_places, most_edges)
        else:
            other = changed_program(dice, one, list(names))
        yield dice, one, other


def reached_edges(program):
    reached = slow_reached(program)
    return [edge for edge in program.edges() if edge[0] in reached]


def holds_pair(one, other, pairs, pair):
    """Whether a pair is as a following with some pairs asks for."""
    m, n = pair
    if m in one.begins() and n not in other.begins():
        return False
    theirs = reached_edges(other)
    for k, s, to in reached_edges(one):
        if to == m and not any((k, l) in pairs for l, t, at in theirs if t == s and at == n):
            return False
    return True


def slow_follow(one, other):
    """The pairs that are left when those that break what a following asks for are taken out again and again."""
    pairs = set(product(slow_reached(one), slow_reached(other)))
    while True:
        kept = {pair for pair in pairs if holds_pair(one, other, pairs, pair)}
        if kept == pairs:
            return sorted(pairs)
        pairs = kept


def slow_ranks(one, other):
    """For each pair in no following the tuple (rank, why), rank by rank as the document tells."""
    ranks = {}
    every = list(product(slow_reached(one), slow_reached(other)))
    ours, theirs = reached_edges(one), reached_edges(other)
    for m, n in every:
        if m in one.begins() and n not in other.begins():
            ranks[(m, n)] = (0, None)
    rank = 0
    while True:
        rank += 1
        known = dict(ranks)
        for m, n in every:
            whys = [(k, s) for k, s, to in ours if to == m
                    and all((k, l) in known for l, t, at in theirs if t == s and at == n)]
            if (m, n) not in known and whys:
                ranks[(m, n)] = (rank, min(whys))
        if len(known) == len(ranks):
            return ranks


def has_loop(program):
    """Whether some places can be led through again; places that nothing leads to are taken out one after another."""
    left = set(range(program.places))
    while True:
        led = {n for m, s, n in program.edges() if m in left and n in left}
        if left <= led:
            return bool(left)
        left &= led


def longest_path(program):
    """How many statements the longest path of a program without loops has."""
    longest, places = 0, set(program.begins())
    while True:
        places = {n for m, s, n in program.edges() if m in places}
        if not places:
            return longest
        longest += 1


# Two analyses


def known_example():
    return Analysis(union_joins(2), {"a": [1, 1, 1, 1], "b": [2, 2, 2, 2], "t": [0, 1, 1, 3]})


def like_analysis(dice, one):
    """An analysis near another one: moved, with one map changed, or with values that do not come beside."""
    way = dice.below(4)
    if way == 0 and one.statements():
        name = dice.pick(one.statements())
        one = one.with_map(name, some_rising(dice, one.joins.rows()))
    if way == 1 and len(one) <= 12:
        one = one * Analysis(chain_joins(2), {name: [0, 1] for name in one.statements()}, begin=dice.below(2))
    return one.moved(dice.shuffled(range(len(one))))


def shifting_analysis(dice, digits):
    """Over sets of digits: one statement brings the lowest digit, one moves digits up, and one brings what is drawn to
    sets that have all of some."""
    values = 1 << digits
    needs = [(dice.below(values), dice.below(values)) for _ in range(1 + dice.below(3))]
    drawn = [0] * values
    for need, more in needs:
        drawn = [made | more if value & need == need else made for value, made in enumerate(drawn)]
    up = [(value << 1 | value >> digits - 1) & values - 1 for value in range(values)]
    return Analysis(union_joins(digits), {"a": [1] * values, "b": up, "t": drawn}).moved(dice.shuffled(range(values)))


def climbing_analysis(dice, names):
    """A chain in which statements go up or down by some numbers: so it takes long words and contexts to tell values."""
    many = 3 + dice.below(5)
    moves = {name: dice.below(5) - 2 for name in names}
    maps = {name: [min(max(value + move, 0), many - 1) for value in range(many)] for name, move in moves.items()}
    return Analysis(chain_joins(many), maps, begin=dice.below(2)).moved(dice.shuffled(range(many)))


def some_analyses(seed, many, most=6, names=("b", "a")):
    """Pairs of analyses with the same statements, with answers of both: tuples (dice, one, mine, other, its)."""
    dice = Dice(seed)
    for at in range(many):
        if at % 5 < 2:
            one = climbing_analysis(dice, names)
        elif at % 5 == 2:
            changes = dict(zip("abt", names))
            one = shifting_analysis(dice, 3).without([name for name in "abt" if name not in changes]).renamed(changes)
        else:
            one = keeping_analysis(dice, list(names)) if at % 2 else some_analysis(dice, list(names), most)
        if at % 3 == 0:
            other = some_analysis(dice, list(names), most)
        else:
            other = like_analysis(dice, one)
        yield dice, one, some_answers(dice, one), other, some_answers(dice, other)


def some_answers(dice, analysis):
    """Answers that are all equal, all different, drawn, or told by where a value stands."""
    many, way = len(analysis), dice.below(5)
    if way == 0:
        return ["same"] * many
    if way == 1:
        return ["v" + "abcdefgh"[value // 8] + "abcdefgh"[value % 8] for value in range(many)]
    if way == 2:
        return ["top" if value == analysis.joins.top() else "low" for value in range(many)]
    return [dice.pick(["yes", "no", "maybe"][:2 + dice.below(2)]) for _ in range(many)]


def slow_layers(one, other):
    """The layers of the pairs, as [61] tells: what came, what statements make of it, and all joins."""
    ours, theirs = one.joins.rows(), other.joins.rows()
    known, layers = {(one.begin, other.begin)}, [[(one.begin, other.begin)]]
    while True:
        more = known | {(one.do((s,), value=u), other.do((s,), value=v)) for s in one.statements() for u, v in known}
        while True:
            joined = more | {(ours[u][x], theirs[v][y]) for u, v in more for x, y in more}
            if joined == more:
                break
            more = joined
        if more == known:
            return layers
        layers.append(sorted(more - known))
        known = more


# Contexts


def slow_coming(analysis):
    """The least set that has the begin, what statements make, and joins."""
    values = {analysis.begin}
    rows = analysis.joins.rows()
    while True:
        more = values | {analysis.map_of(s)[u] for s in analysis.statements() for u in values}
        more |= {rows[u][v] for u in more for v in more}
        if more == values:
            return sorted(values)
        values = more


def steps_of_contexts(analysis):
    """All steps, ascending, with a function each."""
    rows = analysis.joins.rows()
    done = [(("do", s), analysis.map_of(s)) for s in analysis.statements()]
    return done + [(("join", value), rows[value]) for value in slow_coming(analysis)]


def slow_context(analysis, answers, value, other):
    """The first context, shorter ones ahead, ascending, that leads two values to unlike answers, or None."""
    waiting, seen = [([], value, other)], {(value, other)}
    while waiting:
        behind = []
        for context, u, v in waiting:
            if answers[u] != answers[v]:
                return context
            for step, to in steps_of_contexts(analysis):
                if (to[u], to[v]) not in seen:
                    seen.add((to[u], to[v]))
                    behind.append((context + [step], to[u], to[v]))
        waiting = behind
    return None


def slow_classes(analysis, answers):
    """The class of each value, None for one that does not come: by contexts between each value and least members."""
    classes, members = [None] * len(analysis), []
    for value in slow_coming(analysis):
        same = [at for at, least in enumerate(members) if slow_context(analysis, answers, least, value) is None]
        if not same:
            members.append(value)
        classes[value] = same[0] if same else len(members) - 1
    return classes, members


# Machines


def some_machine(dice, names, most_states=4):
    """A machine whose statements lead from each state to none, one or two, or to one from all; or one that counts."""
    states = 1 + max(dice.below(most_states), dice.below(most_states))
    if dice.below(4) == 0:
        order = dice.shuffled(range(states))
        moves = {name: list(zip(order, order[1:] if at == 0 else order)) for at, name in enumerate(names)}
        return Machine(states, order[:1], moves)
    firsts = [dice.below(states) for _ in range(1 + dice.below(2))]
    moves = {}
    for name in dice.shuffled(list(names)):
        if dice.below(5) == 0:
            there = dice.below(states)
            moves[name] = [(state, there) for state in range(states)]
        else:
            moves[name] = [(state, dice.below(states)) for state in range(states) for _ in range(dice.pick([0, 1, 1, 2]))]
    return Machine(states, firsts, moves)


def some_meanings(dice, joins, machine):
    """Meanings: each value means what those below it do, and perhaps more."""
    rows = joins.rows()
    own = [[state for state in range(machine.states) if dice.below(3) == 0] for _ in rows]
    return [tuple(sorted({state for u, some in enumerate(own) if is_under(rows, u, v) for state in some}))
            for v in range(len(rows))]


def some_soundness(seed, many, names=("b", "a"), most_states=3):
    """Analyses with meanings and machines with the same statements: tuples (dice, analysis, meanings, machine).

    Some are drawn, some sound by how they are made: by the sets of a machine, perhaps with something beside.
    """
    dice = Dice(seed)
    for at in range(many):
        machine = some_machine(dice, names, most_states)
        if at % 3 == 0:
            analysis = climbing_analysis(dice, names) if at % 2 else some_analysis(dice, list(names), 6)
            yield dice, analysis, some_meanings(dice, analysis.joins, machine), machine
            continue
        analysis, meanings = all_sets_analysis(machine)
        if at % 3 == 1:
            beside = some_analysis(dice, list(names), 4)
            meanings = [some for some in meanings for _ in range(len(beside))]
            analysis = analysis * beside
        if dice.below(2):
            value, state = dice.pick(slow_sound_pairs(analysis, machine))
            meanings = meant_less(analysis.joins, meanings, value, state)
        order = dice.shuffled(range(len(analysis)))
        yield dice, analysis.moved(order), [meanings[order.index(value)] for value in range(len(order))], machine


def meant_less(joins, meanings, value, state):
    """Meanings by which all values below some value do not mean some state."""
    below = joins.below(value)
    return [tuple(at for at in some if at != state or v not in below) for v, some in enumerate(meanings)]


def all_sets_analysis(machine):
    """The analysis of all sets of states, and what its values mean."""
    sets = [tuple(state for state in range(machine.states) if value >> state & 1) for value in range(1 << machine.states)]
    maps = {name: [sum(1 << b for b in {b for a, b in machine.moves(name) if a in some}) for some in sets]
            for name in machine.statements()}
    return Analysis(union_joins(machine.states), maps, begin=sets.index(tuple(machine.firsts()))), sets


def slow_sound_pairs(analysis, machine):
    """The tuples (value, state) that come, by closing."""
    pairs = {(analysis.begin, first) for first in machine.firsts()}
    while True:
        more = pairs | {(analysis.map_of(s)[v], b) for v, a in pairs for s in machine.statements()
                        for at, b in machine.moves(s) if at == a}
        if more == pairs:
            return sorted(pairs)
        pairs = more


def slow_runs(machine, word):
    """All runs along a word, ascending."""
    return [list(run) for run in product(range(machine.states), repeat=len(word) + 1) if run[0] in machine.firsts()
            and all((a, b) in machine.moves(s) for s, a, b in zip(word, run, run[1:]))]


def slow_sets(first, statements, moved, joined):
    """The ascending list of the sets that come of a first one, by what statements make of them and by joins."""
    sets = {first}
    while True:
        more = sets | {moved(some, name) for some in sets for name in statements}
        more |= {joined(some, other) for some in more for other in more}
        if more == sets:
            return sorted(tuple(sorted(some)) for some in sets)
        sets = more
