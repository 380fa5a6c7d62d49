"""Whether an analysis, whose values mean states, is sound for a machine, or means just its states [92]."""

from factflows.fits import all_maps, check_statements
from factflows.kinds import all_differ, is_number, is_pair, is_word
from factflows.machines import all_moves, collecting
from factflows.pairs import holds_for
from factflows.searches import least_word, ways_from


def _starts(analysis, machine):
    """The tuples (begin, state) of the first states."""
    return [(analysis.begin, first) for first in machine.firsts()]


def _further_pairs(analysis, machine):
    """The function that tells what comes of a tuple (value, state): tuples (name, (value, state))."""
    maps = all_maps(analysis)
    moves = all_moves(machine)

    def further(pair):
        value, state = pair
        return [(name, (maps[name][value], b)) for name in moves for a, b in moves[name] if a == state]

    return further


def _least_run(machine, word, ends):
    """The least of the runs along a word that end in one of some states; there is one."""
    leading = [ends]
    for name in reversed(word):
        nearer = leading[-1]
        leading.append([a for a, b in machine.moves(name) if b in nearer])
    leading.reverse()
    run = [min([first for first in machine.firsts() if first in leading[0]])]
    for name, nearer in zip(word, leading[1:]):
        run.append(min([state for state in machine.step(run[-1:], name) if state in nearer]))
    return run


def sound_for(analysis, meanings, machine):
    """Whether each fact means all states that can be there: with all pairs, or with the least word and run."""
    check_statements(analysis, machine)
    starts = _starts(analysis, machine)
    ways = ways_from(starts, _further_pairs(analysis, machine), None)
    goals = {(value, state): True for value, state in ways if state not in meanings[value]}
    if not goals:
        return ("sound", sorted(ways))
    word = least_word(starts, ways, goals)
    meant = meanings[analysis.do(word)]
    ends = [state for state in range(machine.states) if state not in meant]
    return ("unsound", word, _least_run(machine, word, ends))


def are_sound_pairs(analysis, meanings, machine, thing):
    """Whether thing is a list of different tuples (value, state) that shows that the analysis is sound."""
    check_statements(analysis, machine)
    many, states = len(analysis), machine.states
    if not isinstance(thing, list) or not all([is_pair(many, states, pair) for pair in thing]):
        return False
    if not all_differ(thing) or not all([state in meanings[value] for value, state in thing]):
        return False
    pairs = {pair: True for pair in thing}
    further = _further_pairs(analysis, machine)
    if not all([pair in pairs for pair in _starts(analysis, machine)]):
        return False
    return all([to in pairs for pair in thing for _, to in further(pair)])


def _is_run(machine, word, thing):
    """Whether thing is a run along a word of the statements."""
    if not isinstance(thing, list) or len(thing) != len(word) + 1:
        return False
    if not all([is_number(machine.states, state) for state in thing]) or thing[0] not in machine.firsts():
        return False
    moves = all_moves(machine)
    return all([(a, b) in moves[name] for name, a, b in zip(word, thing, thing[1:])])


def is_unsound(analysis, meanings, machine, thing):
    """Whether thing is a tuple (word, run) of a run that ends in a state that the path value does not mean."""
    check_statements(analysis, machine)
    if not isinstance(thing, tuple) or len(thing) != 2 or not is_word(thing[0]):
        return False
    word, run = thing
    names = machine.statements()
    if not all([name in names for name in word]) or not _is_run(machine, word, run):
        return False
    return run[-1] not in meanings[analysis.do(word)]


def just_for(analysis, meanings, machine):
    """Whether each fact means just the states that can be there: with all rows, or with the first that does not."""
    check_statements(analysis, machine)
    collected, sets = collecting(machine)
    many, more = len(analysis), len(sets)
    relation = [(value, at) for value in range(many) for at in range(more) if meanings[value] == sets[at]]
    told = holds_for(analysis, collected, relation, most=many * more)
    if told[0] == "holds":
        return ("just", [(value, sets[at]) for value, at in told[1]])
    _, pair, program, place = told
    return ("apart", (pair[0], sets[pair[1]]), program, place)
