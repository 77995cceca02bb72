"""The words of [70] and [71] once more, as plainly as can be: nodes are tuples of three lists, as in a table."""

import random

from suitedpairs.suits import Suits
from tests import model


def read(pairs, rest, kind):
    """The rest after a kind was read in it, and what was written."""
    fit = [at for at, newcomer in enumerate(rest) if model.do_suit(pairs, newcomer, kind)]
    return (rest[:fit[0]] + rest[fit[0] + 1:], []) if fit else (list(rest), [kind])


def gap(pairs, node):
    """The gap of a node, or None: all beginnings of both ends are tried."""
    one, other = (model.after(pairs, [], rest) for rest in node[:2])
    for at in range(len(other) + 1):
        if other[:at] + one == other:
            return other[:at], []
    for at in range(len(one) + 1):
        if one[:at] + other == one:
            return [], one[:at]
    return None


def steps(kinds, pairs, node):
    """For each kind by which a node leads on, in ascending order: the kind, the node, and what was written."""
    found = []
    for kind in sorted(kinds):
        if not any(model.do_suit(pairs, kind, known) for known in node[2]):
            (one, first), (other, last) = read(pairs, node[0], kind), read(pairs, node[1], kind)
            found.append((kind, (one, other, sorted({*node[2], kind})), first, last))
    return found


def does_follow(pairs, node, then, first, last):
    """Whether the gap of a node is that of an earlier one, with what was written, without the common beginning."""
    now = gap(pairs, node)
    first, last = now[0] + first, now[1] + last
    while first and last and first[0] == last[0]:
        first, last = first[1:], last[1:]
    return gap(pairs, then) == (first, last)


def is_table(kinds, pairs, one, other, nodes):
    """Whether a list of nodes of two rows is a table of them."""
    start = (one, other, [])
    if any(node in nodes[at + 1:] for at, node in enumerate(nodes)) or start not in nodes:
        return False
    if gap(pairs, start) != ([], []) or any(gap(pairs, node) is None for node in nodes):
        return False
    return all(then in nodes and does_follow(pairs, node, then, first, last)
               for node in nodes for _, then, first, last in steps(kinds, pairs, node))


def compare(kinds, pairs, one, other):
    """What compare returns without a limit, and how many nodes were met."""
    start = (one, other, [])
    if gap(pairs, start) != ([], []):
        return ("apart", []), 1
    met, lines = [start], [[]]
    for node, line in zip(met, lines):
        for kind, then, first, last in steps(kinds, pairs, node):
            if not does_follow(pairs, node, then, first, last):
                return ("apart", line + [kind]), len(met)
            if then not in met:
                met.append(then)
                lines.append(line + [kind])
    return ("alike", met), len(met)


def all_nodes(kinds, one, other):
    """All nodes of two rows, met or not."""
    rests = [[list(rest) for rest in sorted({tuple(rest) for rest in model.subsets(row)})] for row in (one, other)]
    return [(first, last, members) for first in rests[0] for last in rests[1]
            for members in model.subsets(sorted(kinds))]


def made_rows(seed, lengths, relations=None):
    """Relations with two rows, many of which are alike."""
    chance = random.Random(seed)
    for kinds, pairs in relations or model.small_relations()[1::2] + model.large_relations(4):
        for many in lengths:
            one = model.random_row(chance, kinds, many)
            for other in (exchanged(chance, one), less_or_more(chance, kinds, pairs, one), model.random_row(
                    chance, kinds, many)):
                yield kinds, pairs, Suits(kinds, pairs), one, other


def exchanged(chance, row):
    """A row in which two neighbours have changed their places, or the same row."""
    at = chance.randrange(len(row) + 1)
    return row[:at] + row[at:at + 2][::-1] + row[at + 2:]


def less_or_more(chance, kinds, pairs, row):
    """A row with two newcomers fewer, or with the first two exchanged for two that suit each other."""
    at = chance.randrange(len(row) + 1)
    if chance.random() < 0.5 or not pairs:
        return row[:at] + row[at + 2:]
    return (list(chance.choice(pairs)) + row[2:])[:len(row)]
