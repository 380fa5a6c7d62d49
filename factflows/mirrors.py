"""Mirrors: analyses whose values stand for sets of places of a program, or of a word [80] [81]."""

from factflows.families import coming_analysis, shared, united
from factflows.fits import led_to, named_outs


def mirror_of(program, statements, *, most=64):
    """The mirror of a program over some statements, and the sets of places for which its values stand."""
    outs = named_outs(program)

    def moved(name, places):
        return led_to(outs, places, name)

    return coming_analysis(tuple(program.begins()), statements, moved, shared, most)


def word_mirror(word, statements, *, most=64):
    """The analysis that tells how far a word of some statements has come, and the sets for which its values stand."""

    def moved(name, spots):
        return tuple([at + 1 for at in spots if at < len(word) and word[at] == name])

    return coming_analysis((0,), statements, moved, united, most)
