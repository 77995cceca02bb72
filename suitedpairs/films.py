"""Films of a run: complete rows backward, cut at one moment, and any row rewound."""

from suitedpairs.errors import Broken, Lonely, NotComplete
from suitedpairs.lines import after, come
from suitedpairs.pairing import partners


def is_complete(suits, row):
    """Whether nobody waits after a run of the row from the empty line."""
    return len(after(suits, [], row)) == 0


def backward(suits, row):
    """The row in which partners have exchanged their kinds, in reversed order."""
    links = _complete_links(suits, row)
    return [row[other] for other in links[::-1]]


def cut(suits, row, at):
    """The kinds that wait after the first newcomers: as they came, and, the last one first, as they leave."""
    links = _complete_links(suits, row)
    coming = [kind for kind, other in zip(row[:at], links[:at]) if other >= at]
    leaving = [row[other] for other in links[at:] if other < at]
    return coming, leaving[::-1]


def finish(suits, line):
    """The least of the shortest rows after which, from the line, nobody waits."""
    for kind in suits.lonely():
        if kind in line:
            raise Lonely(kind)
    row = []
    now = line
    while len(now) > 0:
        # Whoever leaves first, the others can leave too: so the least kind that takes anybody is right.
        kind = suits.mates(now)[0]
        row.append(kind)
        now = come(suits, now, kind)[1]
    return row


def play(suits, line, events):
    """The line after a list of events."""
    now = list(line)
    for at, (word, kind) in enumerate(events):
        if word == "come":
            now = come(suits, now, kind)[1]
        elif kind in now:
            now.remove(kind)
        else:
            raise Broken(at)
    return now


def rewind(suits, row):
    """The events that lead from the line after the row back to the empty line."""
    links = partners(suits, [], row)
    events = [("go", kind) if other is None else ("come", row[other]) for kind, other in zip(row, links)]
    return events[::-1]


def _complete_links(suits, row):
    """The right links of a row that has to be complete."""
    links = partners(suits, [], row)
    left = links.count(None)
    if left > 0:
        raise NotComplete(left)
    return links
