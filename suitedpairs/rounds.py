"""Rounds: where a repeated row of newcomers leads."""

from suitedpairs.crowds import crowd
from suitedpairs.errors import TooMany
from suitedpairs.kinds import is_integer
from suitedpairs.lines import after

MOST_ROUNDS = 400


def cycle(suits, line, row, *, limit=400):
    """The least number of rounds to a line that comes again, and the least number of rounds until it comes again."""
    found = _find_cycle(suits, line, row, limit)
    if found is None:
        raise TooMany(limit)
    return found


def is_cycle(suits, line, row, thing):
    """Whether a value is the tuple that cycle returns."""
    if not isinstance(thing, tuple) or not all([is_integer(part) for part in thing]):
        return False
    return thing == _find_cycle(suits, line, row, MOST_ROUNDS)


def again(suits, line, row, times, *, limit=400):
    """The line after so many rounds."""
    many = times
    if times > limit:
        lead, length = cycle(suits, line, row, limit=limit)
        many = lead + (times - lead) % length
    return after(suits, line, row * many)


def _find_cycle(suits, line, row, limit):
    """The tuple that cycle returns, or None if there is none up to the limit."""
    # The surplus of a crowd grows with each round, so no line comes again, and the lines need not be made.
    if crowd(suits, row)[0] > 0:
        return None
    seen = {}
    now = line
    for many in range(limit + 1):
        known = tuple(now)
        if known in seen:
            return seen[known], many - seen[known]
        seen[known] = many
        now = after(suits, now, row)
    return None
