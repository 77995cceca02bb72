"""The trail of one difference: which person more or fewer waits in one of two runs, moment by moment."""

from suitedpairs.pairing import partners


def trail(suits, line, row, at, kind):
    """What one newcomer more of this kind, before the newcomer of index at, changes at each moment from then on."""
    here = len(line) + at
    alone = partners(suits, line, row)
    wider = partners(suits, line, row[:at] + [kind] + row[at:])
    numbers = list(range(here)) + [-1] + list(range(here, len(alone)))
    return [_difference(_waiting(alone, many), [numbers[number] for number in _waiting(wider, many + 1)])
            for many in range(here, len(alone) + 1)]


def given_up(suits, line, row, place):
    """What it changes, at the beginning and after each newcomer, if the person at this place gives up."""
    whole = partners(suits, line, row)
    fewer = partners(suits, line[:place] + line[place + 1:], row)
    numbers = list(range(place)) + list(range(place + 1, len(whole)))
    return [_difference(_waiting(whole, many), [numbers[number] for number in _waiting(fewer, many - 1)])
            for many in range(len(line), len(whole) + 1)]


def _waiting(links, many):
    """The numbers of those who wait when so many persons of a run have come, told from all partners of the run."""
    return [number for number, other in enumerate(links[:many]) if other is None or other >= many]


def _difference(usual, changed):
    """The side, 1 or -1, and the number of the one person who waits in only one of two runs."""
    more = sorted(set(changed) - set(usual))
    if more:
        return 1, more[0]
    return -1, sorted(set(usual) - set(changed))[0]
