"""Integers, kinds and lists of kinds, told apart from any other values."""

MOST_LETTERS = 8


def is_integer(thing):
    """Whether a value is an int that is not True or False."""
    return isinstance(thing, int) and not isinstance(thing, bool)


def is_index(thing, many):
    """Whether a value is the index of one of so many."""
    return is_integer(thing) and 0 <= thing < many


def do_ascend(numbers):
    """Whether each integer of a list is greater than the one before it."""
    return all([one < other for one, other in zip(numbers, numbers[1:])])


def is_kind(thing):
    """Whether a value is a string of one to eight lowercase letters a to z."""
    if not isinstance(thing, str) or not 1 <= len(thing) <= MOST_LETTERS:
        return False
    return all(["a" <= letter <= "z" for letter in thing])


def are_kinds(thing):
    """Whether a value is a list of kinds, perhaps empty."""
    return isinstance(thing, list) and all([is_kind(item) for item in thing])
