"""Sums over all lines in which just the kinds of a set wait."""

from suitedpairs.chances import refuse_full, weight_of
from suitedpairs.ratios import Ratio


def total(suits, weights, kinds):
    """The sum of the products of all lines in which just the kinds of a set wait."""
    refuse_full(suits, weights)
    return totals(suits, weights, kinds)[tuple(kinds)]


def totals(suits, weights, kinds):
    """The totals of all sets of these kinds in which no two different ones suit each other, by their tuples."""
    sources = {known: Ratio(0, 1) for known in _peaceful_sets(suits, kinds)}
    sources[()] = Ratio(1, 1)
    return worked_out(suits, weights, sources)


def worked_out(suits, weights, sources):
    """For each set its sum, worked out from its source and from the sums of the sets with one kind fewer.

    The sum times the weight of the mates of the set is its source, and for each of its kinds, which may be that of the
    last person, the weight of the kind times what there is without this person: the sum of the set without the kind,
    and, if the kind does not suit itself, that of the set itself. The sum of the empty set is its source.
    """
    found = {}
    for kinds, source in sources.items():
        known = source
        for kind, weight in weights:
            if kind in kinds:
                known = known + Ratio(weight, 1) * found[without(kinds, kind)]
        found[kinds] = known * Ratio(1, _divisor(suits, weights, kinds)) if kinds else known
    return found


def without(kinds, kind):
    """The tuple of these kinds except one."""
    return tuple([other for other in kinds if other != kind])


def _divisor(suits, weights, kinds):
    """The weight of the mates of a set less that of its kinds that do not suit themselves."""
    mates = suits.mates(list(kinds))
    return weight_of(weights, mates) - weight_of(weights, [kind for kind in kinds if kind not in mates])


def _peaceful_sets(suits, kinds):
    """The sets of these kinds in which no two different ones suit each other, as tuples, smaller ones first."""
    found = [()]
    for kind in kinds:
        mates = suits.mates([kind])
        found = found + [known + (kind,) for known in found if not any([other in mates for other in known])]
    return sorted(found, key=len)
