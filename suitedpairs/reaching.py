"""The fewest newcomers from one line to another one, or the stuck persons who show that none lead there."""

from suitedpairs.stuck import are_stuck, leave


def kept(line, goal, many):
    """The indexes of the persons of a line that stay if the first items of the goal are to stay, or None."""
    items = goal[:many]
    wanted = {}
    for kind in items:
        wanted[kind] = wanted.get(kind, 0) + 1
    places = []
    for place in range(len(line) - 1, -1, -1):
        kind = line[place]
        if wanted.get(kind, 0) > 0:
            wanted[kind] -= 1
            places.append(place)
    places.reverse()
    return places if [line[place] for place in places] == items else None


def fewest(suits, line, goal):
    """A row of fewest newcomers that leads from the line to the goal, or the papers that show that there is none."""
    papers = []
    for many in range(len(goal), -1, -1):
        places = kept(line, goal, many)
        paper = None
        if places is not None:
            word, paper = leave(suits, line, places)
            if word == "row":
                # The rest of the goal joins: the goal is a line, so nobody in it suits anybody else in it.
                return "row", paper + goal[many:]
        papers.append(paper)
    papers.reverse()
    return "never", papers


def are_never(suits, line, goal, thing):
    """Whether a value is a list of papers which show that no row leads from the line to the goal."""
    if not isinstance(thing, list) or len(thing) != len(goal) + 1:
        return False
    return all([_is_paper(suits, line, kept(line, goal, many), paper) for many, paper in enumerate(thing)])


def _is_paper(suits, line, places, paper):
    """Whether a value shows that the persons at these places cannot be all who stay, or is None if there are none."""
    return paper is None if places is None else are_stuck(suits, line, places, paper)
