"""Alike: whether two rows lead from every line to equal lines, with a table or a line that shows it."""

from suitedpairs.errors import TooMany
from suitedpairs.lines import after
from suitedpairs.nodes import gap, node, steps


def separates(suits, one, other, line):
    """Whether the two rows lead from the line to unequal lines."""
    return after(suits, line, one) != after(suits, line, other)


def compare(suits, one, other, *, limit=400):
    """The table of two rows that are alike, or the first of the shortest lines that separate them."""
    start = node(one, other, [])
    gaps = {start: gap(suits, start)}
    if gaps[start] != ([], []):
        return "apart", []
    met = [(start, [])]
    at = 0
    while at < len(met):
        place, line = met[at]
        at += 1
        for kind, then, wanted in steps(suits, place, gaps[place]):
            is_new = then not in gaps
            if is_new:
                gaps[then] = gap(suits, then)
            if gaps[then] != wanted:
                return "apart", line + [kind]
            if is_new and len(met) == limit:
                raise TooMany(limit)
            if is_new:
                met.append((then, line + [kind]))
    return "alike", [(list(rest), list(other_rest), list(kinds)) for (rest, other_rest, kinds), _ in met]
