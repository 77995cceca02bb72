"""Shares of all moments, if newcomers come by chance, each kind with its weight."""

from suitedpairs.chances import first_full, refuse_full, weight_of
from suitedpairs.ratios import Ratio, added
from suitedpairs.sums import totals, without, worked_out


def full(suits, weights):
    """The first calm set, not empty, with at least the weight of its mates, or None."""
    return first_full(suits, weights)


def share(suits, weights, line):
    """The share of a line."""
    known = _all_totals(suits, weights)
    return _empty_share(known) * _product(suits, weights, line)


def waiting(suits, weights, kinds):
    """The share of all lines in which just the kinds of a set wait."""
    known = _all_totals(suits, weights)
    return _empty_share(known) * known.get(tuple(kinds), Ratio(0, 1))


def length(suits, weights, many):
    """The share of all lines with so many persons."""
    known = _all_totals(suits, weights)
    sums = {kinds: Ratio(0, 1) for kinds in known}
    sums[()] = Ratio(1, 1)
    for _ in range(many):
        sums = _one_person_more(suits, weights, sums)
    return _empty_share(known) * _sum_of(sums)


def mean(suits, weights):
    """The mean number of waiting persons."""
    known = _all_totals(suits, weights)
    # A line is one person longer than without its last person: so in the sum of lengths each product stands once more.
    sources = {kinds: Ratio(weight_of(weights, suits.mates(list(kinds))), 1) * known[kinds] for kinds in known}
    return _empty_share(known) * _sum_of(worked_out(suits, weights, sources))


def meets(suits, weights, kind, first):
    """The share of the lines whose first person that suits a kind is of the kind first."""
    known = _all_totals(suits, weights)
    mates = suits.mates([kind])
    sources = {kinds: Ratio(0, 1) for kinds in known}
    for kinds in known:
        others = without(kinds, first)
        # The last person of a line is the first one that suits the kind if nobody does among the others.
        if first in kinds and first in mates and not any([mate in others for mate in mates]):
            sources[kinds] = Ratio(weight_of(weights, [first]), 1) * known[others]
    return _empty_share(known) * _sum_of(worked_out(suits, weights, sources))


def joins(suits, weights, kind):
    """The share of the lines in which nobody suits a kind."""
    known = _all_totals(suits, weights)
    mates = suits.mates([kind])
    calm = {kinds: known[kinds] for kinds in known if not any([mate in kinds for mate in mates])}
    return _empty_share(known) * _sum_of(calm)


def _all_totals(suits, weights):
    """The totals of all sets of which lines can be made."""
    refuse_full(suits, weights)
    return totals(suits, weights, suits.kinds())


def _sum_of(table):
    """The sum of the Ratios of a table."""
    return added(list(table.values()))


def _empty_share(known):
    """The share of the empty line: all shares together are 1."""
    whole = _sum_of(known)
    return Ratio(whole.bottom, whole.top)


def _product(suits, weights, line):
    """The product, over the places of a line, of the weight of the kind divided by that of all mates up to there."""
    numbers = dict(weights)
    top, bottom, mates_weight = 1, 1, 0
    seen = []
    for kind in line:
        if kind not in seen:
            seen.append(kind)
            mates_weight = weight_of(weights, suits.mates(seen))
        top = top * numbers[kind]
        bottom = bottom * mates_weight
    return Ratio(top, bottom)


def _one_person_more(suits, weights, sums):
    """The sums, for each set, of the products of all lines that are one person longer."""
    found = {}
    for kinds in sums:
        mates = suits.mates(list(kinds))
        known = Ratio(0, 1)
        for kind, weight in weights:
            if kind in kinds:
                before = sums[without(kinds, kind)]
                # A person of a kind that does not suit itself may wait behind others of its kind.
                known = known + Ratio(weight, 1) * (before if kind in mates else before + sums[kinds])
        found[kinds] = known * Ratio(1, weight_of(weights, mates)) if kinds else known
    return found
