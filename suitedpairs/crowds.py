"""Crowds: calm sets of kinds with more newcomers in a row than their mates have."""

from suitedpairs.suits import is_set


def excess(suits, row, kinds):
    """The number of newcomers of a calm set's kinds, less the number of newcomers of its mates."""
    return _balance(suits, row, kinds)


def surplus(suits, line, kinds):
    """The number of waiting persons of a calm set's kinds, less the number of waiting persons of its mates."""
    return _balance(suits, line, kinds)


def crowd(suits, row):
    """The greatest excess of a calm set in the row, and the first calm set that has it."""
    number, members = 0, []
    # The first calm set is the empty one, whose excess is 0.
    for kinds in suits.calm_sets():
        worth = excess(suits, row, kinds)
        if worth > number:
            number, members = worth, kinds
    return number, members


def is_crowd(suits, row, thing):
    """Whether a value is a calm set with an excess above 0 in the row."""
    return is_set(suits, thing) and suits.is_calm(thing) and excess(suits, row, thing) > 0


def _balance(suits, persons, kinds):
    """How many persons are of these kinds, less how many are of their mates."""
    mates = suits.mates(kinds)
    return sum([persons.count(kind) for kind in kinds]) - sum([persons.count(kind) for kind in mates])
