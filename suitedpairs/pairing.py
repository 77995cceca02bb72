"""Who leaves with whom in a run of a row from a line."""

from suitedpairs.lines import come


def partners(suits, line, row):
    """For each person of the run, by number, the number of its partner, or None."""
    found = [None] * (len(line) + len(row))
    waiting = list(range(len(line)))
    now = line
    for number, kind in enumerate(row, start=len(line)):
        place, now = come(suits, now, kind)
        if place is None:
            waiting.append(number)
        else:
            first = waiting.pop(place)
            found[first] = number
            found[number] = first
    return found


def by_newcomers(suits, line, row):
    """For each newcomer, the index in the line of the person that it takes, or None."""
    many = len(line)
    others = partners(suits, line, row)[many:]
    # A newcomer may also leave with an earlier newcomer: that one is nobody of the line.
    return [None if other is None or other >= many else other for other in others]


def by_persons(suits, line, row):
    """For each person of the line, the index in the row of the newcomer that takes it, or None."""
    many = len(line)
    others = partners(suits, line, row)[:many]
    return [None if other is None else other - many for other in others]


def parted(suits, line, row):
    """The persons of the line that nobody takes, and the newcomers that take nobody of the line."""
    takers = by_persons(suits, line, row)
    taken = by_newcomers(suits, line, row)
    stay = [kind for kind, taker in zip(line, takers) if taker is None]
    rest = [kind for kind, person in zip(row, taken) if person is None]
    return stay, rest
