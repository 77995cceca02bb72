"""Stuck persons: those who cannot leave while the kept ones stay."""

from suitedpairs.kinds import do_ascend, is_index


def leave(suits, line, kept):
    """A row after which all others have left and the kept ones stay, or the greatest set of stuck persons."""
    waiting = list(range(len(line)))
    row = []
    found = _next_to_leave(suits, line, waiting, kept)
    while found is not None:
        kind, person = found
        row.append(kind)
        waiting.remove(person)
        found = _next_to_leave(suits, line, waiting, kept)
    # Nobody can leave any more, and whoever left was not stuck: so all others who still wait are.
    persons = [person for person in waiting if person not in kept]
    return ("stuck", persons) if persons else ("row", row)


def are_stuck(suits, line, kept, thing):
    """Whether a value is an ascending list of the indexes of at least one person, all stuck together."""
    if not isinstance(thing, list) or not all([is_index(item, len(line)) for item in thing]):
        return False
    if len(thing) == 0 or not do_ascend(thing) or any([person in kept for person in thing]):
        return False
    return all([_is_held(suits, line, kept + thing, person) for person in thing])


def _next_to_leave(suits, line, waiting, kept):
    """A kind, and the person who leaves with its next newcomer and is not kept, or None if there is none."""
    for kind in suits.kinds():
        mates = suits.mates([kind])
        takes = [person for person in waiting if line[person] in mates]
        if takes and takes[0] not in kept:
            return kind, takes[0]
    return None


def _is_held(suits, line, holders, person):
    """Whether each kind that suits a person suits an earlier one of the holders, too."""
    taken = suits.mates([line[holder] for holder in holders if holder < person])
    return all([kind in taken for kind in suits.mates([line[person]])])
