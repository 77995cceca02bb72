"""How far two lines are from each other: what both have in common, and what must be taken out and put in."""

from suitedpairs.kinds import do_ascend, is_index
from suitedpairs.lines import come


def distance(one, other):
    """The fewest persons to take out of the first line and to put into it, so that it becomes the second one."""
    return len(one) + len(other) - 2 * _longest(one, other)[-1][-1]


def common(one, other):
    """A longest common part: tuples of an index in the first line and one in the second line."""
    longest = _longest(one, other)
    at, to = len(one), len(other)
    found = []
    while longest[at][to] > 0:
        if longest[at][to] == longest[at - 1][to]:
            at -= 1
        elif longest[at][to] == longest[at][to - 1]:
            to -= 1
        else:
            # Neither of the two last persons can be spared, so they are of one kind and belong together.
            at -= 1
            to -= 1
            found.append((at, to))
    return found[::-1]


def is_common(one, other, thing):
    """Whether a value is a longest common part of two lines."""
    if not isinstance(thing, list) or not all([_is_match(one, other, item) for item in thing]):
        return False
    if not do_ascend([at for at, _ in thing]) or not do_ascend([to for _, to in thing]):
        return False
    return len(thing) == _longest(one, other)[-1][-1]


def course(suits, one, other, row):
    """The distances of two lines, first as they are, then after each newcomer of the row, which comes to both."""
    now, then = one, other
    found = [distance(now, then)]
    for kind in row:
        now = come(suits, now, kind)[1]
        then = come(suits, then, kind)[1]
        found.append(distance(now, then))
    return found


def _longest(one, other):
    """The lengths of the longest common parts: in row i, column k for the first i and the first k persons."""
    rows = [[0] * (len(other) + 1)]
    for kind in one:
        rows.append(_next_row(rows[-1], kind, other))
    return rows


def _next_row(above, kind, other):
    """The lengths with one person more of the first line, who is of this kind."""
    row = [0]
    for to, another in enumerate(other):
        row.append(above[to] + 1 if another == kind else max(above[to + 1], row[to]))
    return row


def _is_match(one, other, thing):
    """Whether a value is a tuple of indexes in both lines of persons of one kind."""
    if not isinstance(thing, tuple) or len(thing) != 2:
        return False
    at, to = thing
    return is_index(at, len(one)) and is_index(to, len(other)) and one[at] == other[to]
