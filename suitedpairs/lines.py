"""Lines of waiting persons, and the one rule: a newcomer leaves with the first one that suits it."""

from suitedpairs.kinds import are_kinds

MOST_NEWCOMERS = 200


def is_line(suits, thing):
    """Whether a value is a line of the relation, of any length."""
    if not _is_of(suits, thing):
        return False
    return not any([_do_clash(thing, one, other) for one, other in suits.pairs()])


def is_row(suits, thing):
    """Whether a value is a row of the relation."""
    return isinstance(thing, list) and len(thing) <= MOST_NEWCOMERS and _is_of(suits, thing)


def come(suits, line, kind):
    """The place of the person who leaves with a newcomer of this kind, or None, and the line after it."""
    mates = suits.mates([kind])
    for place, person in enumerate(line):
        if person in mates:
            return place, line[:place] + line[place + 1:]
    return None, line + [kind]


def after(suits, line, row):
    """The line after a run of the row."""
    # Each kind has a queue of its own, by number, so that nobody has to search a line that many rounds made long.
    mates = {kind: suits.mates([kind]) for kind in suits.kinds()}
    queues = {kind: [] for kind in mates}
    gone = {kind: 0 for kind in mates}
    for number, kind in enumerate(line):
        queues[kind].append(number)
    for number, kind in enumerate(row, start=len(line)):
        first = _first_of(mates[kind], queues, gone)
        if first is None:
            queues[kind].append(number)
        else:
            gone[first] += 1
    persons = line + row
    left = [number for kind in queues for number in queues[kind][gone[kind]:]]
    return [persons[number] for number in sorted(left)]


def moments(suits, line, row):
    """The lines after each newcomer of the row, in order."""
    # Between two lines the caller may change the row, or the line that it got: the walk goes by copies.
    now = line
    for kind in list(row):
        now = come(suits, now, kind)[1]
        yield list(now)


def _first_of(kinds, queues, gone):
    """The one of these kinds of which a person waits who has waited longest, or None if none of them waits."""
    heads = [(queues[kind][gone[kind]], kind) for kind in kinds if gone[kind] < len(queues[kind])]
    return min(heads)[1] if heads else None


def _is_of(suits, thing):
    """Whether a value is a list of kinds of the relation."""
    known = suits.kinds()
    return are_kinds(thing) and all([kind in known for kind in thing])


def _do_clash(persons, one, other):
    """Whether two persons at different places are of two kinds that suit each other."""
    if one == other:
        return persons.count(one) > 1
    return one in persons and other in persons
