"""The words of the document on sums and shares, with Fractions and by lists of lines, to compare the program with.

A relation is a list of kinds and a list of pairs, in any order; weights are what the program is given.
"""

import itertools
import random
from fractions import Fraction

from tests import model

LETTERS = model.LETTERS


def weight(weights, kinds):
    """The weight of several kinds."""
    return sum(number for kind, number in weights if kind in kinds)


def all_full(kinds, pairs, weights):
    """All calm sets, not empty, with at least the weight of their mates: first those with the fewest kinds."""
    calm = [one for one in model.subsets(sorted(kinds)) if one and model.is_calm(pairs, one)]
    found = [one for one in calm if weight(weights, one) >= weight(weights, model.mates(kinds, pairs, one))]
    return sorted(found, key=lambda one: (len(one), one))


def product(kinds, pairs, weights, line):
    """The product of [12] over the places of a line."""
    found = Fraction(1)
    for at, kind in enumerate(line):
        found *= Fraction(weight(weights, [kind]), weight(weights, model.mates(kinds, pairs, line[:at + 1])))
    return found


def is_peaceful(pairs, members):
    """Whether no two different kinds of a set suit each other."""
    return not any(model.do_suit(pairs, one, other) for one, other in itertools.combinations(members, 2))


def peaceful_sets(kinds, pairs):
    """All sets in which no two different kinds suit each other."""
    return [one for one in model.subsets(sorted(kinds)) if is_peaceful(pairs, one)]


def order_parts(kinds, pairs, weights, order):
    """For all lines whose kinds first wait in this order: the sum of the products, and their mean number of persons.

    After each first person of a kind, others of the kinds up to there may follow, any number of those that do not suit
    themselves: a geometric series.
    """
    part, persons = Fraction(1), Fraction(0)
    for at, kind in enumerate(order):
        known = order[:at + 1]
        again = weight(weights, [one for one in known if not model.do_suit(pairs, one, one)])
        mates = weight(weights, model.mates(kinds, pairs, known))
        part *= Fraction(weight(weights, [kind]), mates - again)
        persons += Fraction(mates, mates - again)
    return part, persons


def total(kinds, pairs, weights, members):
    """The sum of the products over all lines of these kinds, by the orders in which the kinds first wait."""
    return sum(order_parts(kinds, pairs, weights, order)[0] for order in itertools.permutations(members))


def all_orders(kinds, pairs, weights):
    """For each order in which kinds may first wait: the order, the share of its lines, their mean number of persons."""
    found = [(order, *order_parts(kinds, pairs, weights, order))
             for members in peaceful_sets(kinds, pairs) for order in itertools.permutations(members)]
    whole = sum(part for _, part, _ in found)
    return [(order, part / whole, persons) for order, part, persons in found]


def share(kinds, pairs, weights, line):
    """The share of a line."""
    return all_orders(kinds, pairs, weights)[0][1] * product(kinds, pairs, weights, line)


def made_weights(chance, kinds, most):
    """Weights from 1 to the most, one for each kind."""
    return [(kind, chance.randint(1, most)) for kind in sorted(kinds)]


def relations(most_kinds, each, seed):
    """All relations of at most three kinds, and some of more, most of them with many pairs."""
    chance = random.Random(seed)
    found = model.small_relations()
    for many in range(4, most_kinds + 1):
        possible = model.possible_pairs(LETTERS[:many])
        for _ in range(each):
            pairs = chance.sample(possible, chance.randint(len(possible) // 3, len(possible)))
            found.append(model.mixed(chance, LETTERS[:many], pairs))
    return found


def weighed_relations(most_kinds=5, each=25, seed=81):
    """Relations with weights: equal, small and great ones."""
    chance = random.Random(seed)
    for kinds, pairs in relations(most_kinds, each, seed):
        for most in (1, 5, 1000):
            yield kinds, pairs, made_weights(chance, kinds, most)


def steady_relations(most_kinds=5, each=25, seed=82):
    """Those of them of which shares are told."""
    for kinds, pairs, weights in weighed_relations(most_kinds, each, seed):
        if not all_full(kinds, pairs, weights):
            yield kinds, pairs, weights
