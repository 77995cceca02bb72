"""Nodes of two rows: what is left of both while a line is read in them.

A node is kept as a tuple of three tuples, so that it can be the key of a dict: the rests of both rows, and the kinds
that were read.
"""

from suitedpairs.lines import after


def node(one, other, kinds):
    """The node of two rests and a set."""
    return tuple(one), tuple(other), tuple(kinds)


def gap(suits, place):
    """The gap of a node, or None if it has none."""
    one, other = after(suits, [], list(place[0])), after(suits, [], list(place[1]))
    # What the longer end has more, at its beginning, has to stand before the shorter one.
    first = other[:max(0, len(other) - len(one))]
    last = one[:max(0, len(one) - len(other))]
    return (first, last) if first + one == last + other else None


def steps(suits, place, start):
    """For each kind by which a node with this gap leads on: the kind, the next node, and the gap it should have."""
    one, other, kinds = place
    barred = suits.mates(kinds)
    found = []
    for kind in suits.kinds():
        if kind not in barred:
            less_one, first = _read(suits, one, kind)
            less_other, last = _read(suits, other, kind)
            wider = kinds if kind in kinds else tuple(sorted(kinds + (kind,)))
            found.append((kind, (less_one, less_other, wider), _parted(start[0] + first, start[1] + last)))
    return found


def _read(suits, rest, kind):
    """A rest after a kind was read in it, and the list of what was written."""
    for at, newcomer in enumerate(rest):
        if suits(newcomer, kind):
            return rest[:at] + rest[at + 1:], []
    return rest, [kind]


def _parted(first, last):
    """Two lists without the beginning that both have in common."""
    # One of them is what was just written, or nothing: so not more than one person is common to both.
    if first[:1] == last[:1]:
        return first[1:], last[1:]
    return first, last
