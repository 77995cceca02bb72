"""Tables: closed lists of nodes, which show that two rows do the same to every line."""

from suitedpairs.kinds import are_kinds
from suitedpairs.nodes import gap, node, steps
from suitedpairs.suits import is_set


def is_table(suits, one, other, thing):
    """Whether a value is a table of the two rows, in any order."""
    if not isinstance(thing, list) or not all([_is_node(suits, one, other, item) for item in thing]):
        return False
    places = [node(item[0], item[1], item[2]) for item in thing]
    gaps = {place: gap(suits, place) for place in places}
    if len(gaps) < len(places) or gaps.get(node(one, other, [])) != ([], []):
        return False
    return all([_is_closed(suits, gaps, place) for place in places])


def _is_node(suits, one, other, thing):
    """Whether a value is a node of the two rows."""
    if not isinstance(thing, tuple) or len(thing) != 3:
        return False
    return _is_rest(one, thing[0]) and _is_rest(other, thing[1]) and is_set(suits, thing[2])


def _is_rest(row, thing):
    """Whether a value is a list of some newcomers of a row, in their order."""
    if not are_kinds(thing):
        return False
    found = 0
    for kind in row:
        if found < len(thing) and thing[found] == kind:
            found += 1
    return found == len(thing)


def _is_closed(suits, gaps, place):
    """Whether a node has a gap, and leads only to nodes whose gaps are known and follow from it."""
    if gaps[place] is None:
        return False
    return all([gaps.get(then) == wanted for _, then, wanted in steps(suits, place, gaps[place])])
