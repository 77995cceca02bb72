"""The words of the document once more, as plainly as can be, to compare the program with.

Here a relation is a list of kinds and a list of pairs, in any order.
"""

import random

LETTERS = ["a", "b", "c", "d", "e", "f", "g", "h"]


def possible_pairs(kinds):
    """All pairs of kinds, each kind with itself included."""
    return [(one, other) for at, one in enumerate(kinds) for other in kinds[at:]]


def subsets(items):
    """All parts of a list, each in the order of the list."""
    found = [[]]
    for item in items:
        found = found + [one + [item] for one in found]
    return found


def small_relations():
    """All relations of at most three kinds."""
    return [(kinds, pairs) for kinds in (["a"], ["a", "b"], ["a", "b", "c"])
            for pairs in subsets(possible_pairs(kinds))]


def large_relations(each=3):
    """Relations of four to eight kinds: no pair, all pairs, and some in between, in mixed order."""
    chance = random.Random(5)
    found = []
    for many in range(4, 9):
        kinds = LETTERS[:many]
        possible = possible_pairs(kinds)
        found.append((kinds, []))
        found.append((kinds, possible))
        for _ in range(each):
            pairs = chance.sample(possible, chance.randint(1, len(possible) - 1))
            found.append(mixed(chance, kinds, pairs))
    return found


def mixed(chance, kinds, pairs):
    """The same relation, its kinds and pairs in another order, some pairs turned about."""
    turned = [(other, one) if chance.random() < 0.5 else (one, other) for one, other in pairs]
    return chance.sample(kinds, len(kinds)), chance.sample(turned, len(turned))


def do_suit(pairs, one, other):
    """Whether two kinds suit each other."""
    return (one, other) in pairs or (other, one) in pairs


def mates(kinds, pairs, asked):
    """The kinds that suit one of several kinds."""
    return sorted(kind for kind in kinds if any(do_suit(pairs, kind, one) for one in asked))


def is_calm(pairs, kinds):
    """Whether no two of a set suit each other, and none itself."""
    return not any(do_suit(pairs, one, other) for one in kinds for other in kinds)


def is_line(pairs, line):
    """Whether no two persons at different places suit each other."""
    places = range(len(line))
    return not any(do_suit(pairs, line[at], line[to]) for at in places for to in places if at != to)


def run(pairs, line, row):
    """The numbers that wait after each newcomer, and the partners of all persons, of a run."""
    persons = line + row
    partners = [None] * len(persons)
    waiting = list(range(len(line)))
    moments = []
    for number in range(len(line), len(persons)):
        first = next((other for other in waiting if do_suit(pairs, persons[other], persons[number])), None)
        if first is None:
            waiting.append(number)
        else:
            waiting.remove(first)
            partners[number] = first
            partners[first] = number
        moments.append(list(waiting))
    return moments, partners


def moments(pairs, line, row):
    """The lines after each newcomer."""
    persons = line + row
    return [[persons[number] for number in waiting] for waiting in run(pairs, line, row)[0]]


def after(pairs, line, row):
    """The line after a row."""
    return ([line] + moments(pairs, line, row))[-1]


def partners(pairs, line, row):
    """The partners of all persons of a run."""
    return run(pairs, line, row)[1]


def lines_up_to(kinds, pairs, most):
    """All lines of at most so many persons."""
    found = [[]]
    for line in found:
        if len(line) < most:
            wider = [line + [kind] for kind in sorted(kinds)]
            found.extend(one for one in wider if is_line(pairs, one))
    return found


def random_row(chance, kinds, length):
    """A row of this length."""
    return [chance.choice(kinds) for _ in range(length)]


def random_line(chance, kinds, pairs, length):
    """A line of at most this length."""
    line = []
    for _ in range(length):
        kind = chance.choice(kinds)
        if not any(do_suit(pairs, kind, other) for other in line):
            line.append(kind)
    return line
