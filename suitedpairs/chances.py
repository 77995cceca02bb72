"""What sums and shares have in common: the weight of several kinds, and the set for which no shares are told."""

from suitedpairs.errors import Crowded


def weight_of(weights, kinds):
    """The weight of several kinds."""
    return sum([weight for kind, weight in weights if kind in kinds])


def first_full(suits, weights):
    """The first calm set, not empty, with at least the weight of its mates, or None."""
    # Sorting keeps the ascending order among sets with as many kinds.
    for kinds in sorted(suits.calm_sets(), key=len):
        if kinds and weight_of(weights, kinds) >= weight_of(weights, suits.mates(kinds)):
            return kinds
    return None


def refuse_full(suits, weights):
    """Raise the error for the set for which no shares are told, if there is one."""
    members = first_full(suits, weights)
    if members is not None:
        raise Crowded(members)
