"""Deeds, which change the Program of a Book [101]."""

from factflows.kinds import is_integer, is_name
from factflows.programs import Program


def _is_place(thing):
    return is_integer(thing) and thing >= 0


def is_deed(thing):
    """Whether thing is a deed."""
    if not isinstance(thing, tuple) or len(thing) == 0 or not isinstance(thing[0], str):
        return False
    if thing[0] == "place":
        return len(thing) == 1
    if thing[0] in ("begin", "free"):
        return len(thing) == 2 and _is_place(thing[1])
    if thing[0] in ("edge", "cut"):
        return len(thing) == 4 and _is_place(thing[1]) and is_name(thing[2]) and _is_place(thing[3])
    return False


def deed_places(deed):
    """The places that a deed names, in their order."""
    return [part for part in deed if is_integer(part)]


def deed_statement(deed):
    """The statement that a deed names, or None."""
    return deed[2] if deed[0] in ("edge", "cut") else None


def is_refused(program, deed):
    """Whether a deed adds what is there, takes out what is not, or would leave no begin place."""
    begins = program.begins()
    if deed[0] == "begin":
        return deed[1] in begins
    if deed[0] == "free":
        return deed[1] not in begins or len(begins) == 1
    if deed[0] == "edge":
        return deed[1:] in program.edges()
    return deed[0] == "cut" and deed[1:] not in program.edges()


def program_behind(program, deed):
    """The Program that a deed makes of one."""
    if deed[0] == "begin":
        return program.with_begins([deed[1]])
    if deed[0] == "edge":
        return program.with_edges([deed[1:]])
    if deed[0] == "cut":
        return program.without_edges([deed[1:]])
    if deed[0] == "free":
        begins = [place for place in program.begins() if place != deed[1]]
        return Program(program.places, begins, program.edges())
    return Program(program.places + 1, program.begins(), program.edges())


def program_of(deeds):
    """The Program behind some deeds, from one place on, a begin place."""
    program = Program(1, [0], [])
    for deed in deeds:
        program = program_behind(program, deed)
    return program
