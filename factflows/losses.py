"""Whether joins ever lose what single paths know [63]."""

from factflows.fits import all_maps
from factflows.kinds import all_differ, is_pair, is_word
from factflows.programs import Program


def _path_values(analysis):
    """All path values."""
    return [value for value, _ in analysis.word_values()]


def _told_tables(maps, values):
    """The tuples that stand for some values, for each statement: all of them are right."""
    return [(name, [(value, maps[name][value]) for value in sorted(values)]) for name in maps]


def _lost_ways(rows, maps, made, single):
    """The ways to make a tuple that is not right by joining a path value to what is made already: tuples (how many
    statements, words, statement)."""
    found = []
    for value in made:
        for more in single:
            for name in maps:
                if maps[name][rows[value][more]] != rows[maps[name][value]][maps[name][more]]:
                    cost, words = made[value][0] + single[more][0], made[value][1] + single[more][1]
                    found.append((cost, words, name))
    return found


def _grown(rows, made, single):
    """What is made with one path value more; both dicts tell for each value the words that make it with as few
    statements as possible, as a tuple (how many statements, words)."""
    grown = {value: made[value] for value in made}
    for value in made:
        for more in single:
            joined = rows[value][more]
            cost = made[value][0] + single[more][0]
            if joined not in grown or cost < grown[joined][0]:
                grown[joined] = (cost, made[value][1] + single[more][1])
    return grown


def loss_of(analysis):
    """Whether joins ever lose: with the tables of all tuples that are made, or with the fewest words that do."""
    rows = analysis.joins.rows()
    maps = all_maps(analysis)
    single = {value: (len(word), (word,)) for value, word in analysis.word_values()}
    made = {}
    grown = single
    # As long as all tuples are right, the first part of a tuple tells the second one: so values stand for tuples here.
    while len(grown) > len(made):
        made = grown
        ways = _lost_ways(rows, maps, made, single)
        if ways:
            _, words, name = min(ways)
            return ("loses", sorted(words), name, _told_tables(maps, made))
        grown = _grown(rows, made, single)
    return ("keeps", _told_tables(maps, made))


def _are_right_rows(analysis, name, thing):
    """Whether thing is a list of different tuples that are right for a statement."""
    many = len(analysis)
    if not isinstance(thing, list) or not all([is_pair(many, many, row) for row in thing]):
        return False
    values = analysis.map_of(name)
    return all([values[x] == y for x, y in thing]) and all_differ(thing)


def _are_right_tables(analysis, thing):
    """Whether thing is a list of tuples (statement, rows) for all statements, with tuples that are right."""
    names = analysis.statements()
    if not isinstance(thing, list) or len(thing) != len(names):
        return False
    for name, table in zip(names, thing):
        if not isinstance(table, tuple) or len(table) != 2:
            return False
        if not isinstance(table[0], str) or table[0] != name or not _are_right_rows(analysis, name, table[1]):
            return False
    return True


def _single_rows(analysis, name):
    """The tuples that are made of one path value."""
    values = analysis.map_of(name)
    return [(value, values[value]) for value in _path_values(analysis)]


def _joined_rows(joins, some, more):
    """The joins of a tuple of some with one of more, each once."""
    return sorted({(joins.join(x, u), joins.join(y, v)) for x, y in some for u, v in more})


def are_tables(analysis, thing):
    """Whether thing has right tables that have all that is made of one path value, and of each two of their tuples."""
    if not _are_right_tables(analysis, thing):
        return False
    for name, rows in thing:
        known = {row: True for row in rows}
        needed = _single_rows(analysis, name) + _joined_rows(analysis.joins, rows, rows)
        if not all([row in known for row in needed]):
            return False
    return True


def _has_made(analysis, name, many, rows):
    """Whether rows have all tuples that at most many path values make for a statement."""
    known = {row: True for row in rows}
    single = _single_rows(analysis, name)
    made = {}
    level = single
    values = 0
    # However great many is: there are no new tuples from some number of path values on.
    while level and values < many:
        if not all([row in known for row in level]):
            return False
        for row in level:
            made[row] = True
        level = [row for row in _joined_rows(analysis.joins, level, single) if row not in made]
        values += 1
    return True


def is_fewest(analysis, many, thing):
    """Whether thing has right tables that have all that is made of at most many path values."""
    if not _are_right_tables(analysis, thing):
        return False
    return all([_has_made(analysis, name, many, rows) for name, rows in thing])


def _are_words(names, thing):
    """Whether thing is a list of different words of some names, one at least."""
    if not isinstance(thing, list) or len(thing) == 0 or not all([is_word(word) for word in thing]):
        return False
    return all([name in names for word in thing for name in word]) and all_differ(thing)


def is_loss(analysis, thing):
    """Whether thing is a tuple (words, statement) by which something is lost."""
    names = analysis.statements()
    if not isinstance(thing, tuple) or len(thing) != 2 or not _are_words(names, thing[0]):
        return False
    words, name = thing
    if not isinstance(name, str) or name not in names:
        return False
    values = [analysis.do(word) for word in words]
    known = analysis.joins.join_all([analysis.do((name,), value=value) for value in values])
    return analysis.do((name,), value=analysis.joins.join_all(values)) != known


def losing_program(words, statement):
    """The program with a path for each word to a common place, from which the statement leads on; and where to."""
    common = 1 + sum([max(len(word) - 1, 0) for word in words])
    edges = [(common, statement, common + 1)]
    free = 1
    for word in words:
        between = list(range(free, free + len(word) - 1))
        path = [0] + between + [common]
        edges.extend([(m, s, n) for m, s, n in zip(path, word, path[1:])])
        free += len(between)
    begins = [0, common] if () in words else [0]
    return (Program(common + 2, begins, edges), common + 1)
