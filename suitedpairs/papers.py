"""Links: lists of pairs that are said to be what the rule makes of a row."""

from suitedpairs.kinds import is_index
from suitedpairs.pairing import partners


def are_links(row, thing):
    """Whether a value is a list of links of the row."""
    if not isinstance(thing, list) or len(thing) != len(row):
        return False
    if not all([item is None or is_index(item, len(row)) for item in thing]):
        return False
    return all([item is None or _is_link(thing, index, item) for index, item in enumerate(thing)])


def are_right(suits, row, thing):
    """Whether a value is the list of right links of the row."""
    return are_links(row, thing) and thing == partners(suits, [], row)


def fault(suits, row, links):
    """None for right links, otherwise the first newcomer that does not do as the rule says, and what it should do."""
    # Up to the first fault the run is that of the rule itself, so the right links tell what should be done there.
    right = partners(suits, [], row)
    for index in range(len(row)):
        should = _earlier(right, index)
        if _earlier(links, index) != should:
            return index, should
    return None


def _is_link(links, index, other):
    """Whether two different newcomers are linked, if the item of the first one says so."""
    return other != index and links[other] == index


def _earlier(links, index):
    """The earlier newcomer with which this one leaves, or -1 if it joins the line."""
    other = links[index]
    return -1 if other is None or other > index else other
