"""Lines of waiting persons, and the one rule: a newcomer leaves with the first one that suits it."""

from suitedpairs.kinds import are_kinds

MOST_NEWCOMERS = 200


def is_line(suits, thing):
    """Whether a value is a line of the relation, of any length."""
    if not _is_of(suits, thing):
        return False
    return not any([_do_clash(thing, one, other) for one, other in suits.pairs()])


def is_row(suits, thing):
    """Whether a value is a row of the relation."""
    return isinstance(thing, list) and len(thing) <= MOST_NEWCOMERS and _is_of(suits, thing)


def come(suits, line, kind):
    """The place of the person who leaves with a newcomer of this kind, or None, and the line after it."""
    mates = suits.mates([kind])
    for place, person in enumerate(line):
        if person in mates:
            return place, line[:place] + line[place + 1:]
    return None, line + [kind]


def after(suits, line, row):
    """The line after a run of the row."""
    now = list(line)
    for kind in row:
        now = come(suits, now, kind)[1]
    return now


def moments(suits, line, row):
    """The lines after each newcomer of the row, in order."""
    # Between two lines the caller may change the row, or the line that it got: the walk goes by copies.
    now = line
    for kind in list(row):
        now = come(suits, now, kind)[1]
        yield list(now)


def _is_of(suits, thing):
    """Whether a value is a list of kinds of the relation."""
    known = suits.kinds()
    return are_kinds(thing) and all([kind in known for kind in thing])


def _do_clash(persons, one, other):
    """Whether two persons at different places are of two kinds that suit each other."""
    if one == other:
        return persons.count(one) > 1
    return one in persons and other in persons
