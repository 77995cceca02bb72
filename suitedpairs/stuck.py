"""Stuck persons: those who cannot leave while the kept ones stay."""

from suitedpairs.kinds import do_ascend, is_index


def leave(suits, line, kept):
    """A row after which all others have left and the kept ones stay, or the greatest set of stuck persons."""
    stay = {person: True for person in kept}
    gone = {}
    row = []
    # A kind never takes anybody behind the first kept person that suits it: so each kind walks through the line once.
    for kind in suits.kinds():
        for person in _within_reach(suits, line, stay, kind):
            if person not in gone:
                gone[person] = True
                row.append(kind)
    # Nobody can leave any more, and whoever left was not stuck: so all others who still wait are.
    persons = [person for person in range(len(line)) if person not in stay and person not in gone]
    return ("stuck", persons) if persons else ("row", row)


def are_stuck(suits, line, kept, thing):
    """Whether a value is an ascending list of the indexes of at least one person, all stuck together."""
    if not isinstance(thing, list) or not all([is_index(item, len(line)) for item in thing]):
        return False
    if len(thing) == 0 or not do_ascend(thing) or any([person in kept for person in thing]):
        return False
    return _are_held(suits, line, kept, thing)


def _within_reach(suits, line, stay, kind):
    """The persons that suit a kind, up to the first one of them that is to stay."""
    mates = suits.mates([kind])
    found = []
    for person, other in enumerate(line):
        if other in mates:
            if person in stay:
                return found
            found.append(person)
    return found


def _are_held(suits, line, kept, persons):
    """Whether for each of these persons each kind that suits it suits an earlier one of them or of the kept ones."""
    asked = set(persons)
    mates = {kind: suits.mates([kind]) for kind in suits.kinds()}
    held = []
    for person in sorted(kept + persons):
        free = [kind for kind in mates[line[person]] if kind not in held]
        if free and person in asked:
            return False
        held = held + free
    return True
