"""What kind of value something is [21]."""

LETTERS = "abcdefghijklmnopqrstuvwxyz"
LONGEST_NAME = 8


def is_integer(thing):
    """Whether thing is an int that is not True or False."""
    return isinstance(thing, int) and not isinstance(thing, bool)


def is_number(many, thing):
    """Whether thing is an integer from 0 to many less 1."""
    return is_integer(thing) and 0 <= thing < many


def is_name(thing):
    """Whether thing is a string of one to eight lowercase letters a to z."""
    if not isinstance(thing, str) or not 1 <= len(thing) <= LONGEST_NAME:
        return False
    return all([letter in LETTERS for letter in thing])


def is_word(thing):
    """Whether thing is a tuple of names."""
    return isinstance(thing, tuple) and all([is_name(name) for name in thing])


def is_pair(many, more, thing):
    """Whether thing is a tuple of an integer from 0 to many less 1 and of one from 0 to more less 1."""
    if not isinstance(thing, tuple) or len(thing) != 2:
        return False
    return is_number(many, thing[0]) and is_number(more, thing[1])


def is_ascending(many, thing):
    """Whether thing is a tuple of different integers from 0 to many less 1, in ascending order."""
    if not isinstance(thing, tuple) or not all([is_number(many, part) for part in thing]):
        return False
    return all([low < high for low, high in zip(thing, thing[1:])])


def all_differ(things):
    """Whether no two of some integers, strings, or tuples of such, are equal."""
    return len(set(things)) == len(things)
