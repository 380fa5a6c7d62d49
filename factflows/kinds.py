"""What kind of value something is [21]."""

LETTERS = "abcdefghijklmnopqrstuvwxyz"
LONGEST_NAME = 8


def is_integer(thing):
    """Whether thing is an int that is not True or False."""
    return isinstance(thing, int) and not isinstance(thing, bool)


def is_number(many, thing):
    """Whether thing is an integer from 0 to many less 1."""
    return is_integer(thing) and 0 <= thing < many


def is_name(thing):
    """Whether thing is a string of one to eight lowercase letters a to z."""
    if not isinstance(thing, str) or not 1 <= len(thing) <= LONGEST_NAME:
        return False
    return all([letter in LETTERS for letter in thing])


def is_word(thing):
    """Whether thing is a tuple of names."""
    return isinstance(thing, tuple) and all([is_name(name) for name in thing])
