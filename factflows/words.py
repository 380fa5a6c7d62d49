"""The words of the paths to two places, compared [54]."""

from factflows.fits import all_outs, check_place, check_places, led_to, named_outs
from factflows.kinds import all_differ, is_ascending, is_number
from factflows.searches import least_word, ways_from


def has_word(program, place, word):
    """Whether some path with a word leads to a place."""
    check_place(program, place)
    outs = named_outs(program)
    places = program.begins()
    for name in word:
        places = led_to(outs, places, name)
    return place in places


def _starts(one, other):
    """The tuples (m, places) for the begin places."""
    begins = tuple(other.begins())
    return [(m, begins) for m in one.begins()]


def _further_rows(one, other):
    """The function that tells what comes of a tuple (m, places): tuples (s, (n, places))."""
    ours = all_outs(one)
    theirs = named_outs(other)

    def further(row):
        m, places = row
        return [(s, (n, led_to(theirs, places, s))) for s, n in ours[m]]

    return further


def compare_words(one, place, other, there, *, most=1000):
    """Whether each word of a path to place is one of a path to there: with all rows, or with the least word."""
    check_places(one, place, other, there)
    starts = _starts(one, other)
    ways = ways_from(starts, _further_rows(one, other), most)
    goals = {(m, places): True for m, places in ways if m == place and there not in places}
    if goals:
        return ("parted", least_word(starts, ways, goals))
    return ("within", sorted(ways))


def _is_row(one, other, thing):
    if not isinstance(thing, tuple) or len(thing) != 2:
        return False
    return is_number(one.places, thing[0]) and is_ascending(other.places, thing[1])


def are_word_rows(one, place, other, there, thing):
    """Whether thing is a list of rows that shows that each word of a path to place is one of a path to there."""
    check_places(one, place, other, there)
    if not isinstance(thing, list) or not all([_is_row(one, other, row) for row in thing]):
        return False
    if not all_differ(thing) or not all([there in places for m, places in thing if m == place]):
        return False
    rows = {row: True for row in thing}
    further = _further_rows(one, other)
    if not all([row in rows for row in _starts(one, other)]):
        return False
    return all([to in rows for row in thing for _, to in further(row)])
