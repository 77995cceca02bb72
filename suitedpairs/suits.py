"""Relations: which kinds suit each other."""

from suitedpairs.errors import BadPair, NoKind, Wrong
from suitedpairs.kinds import are_kinds, is_kind

MOST_KINDS = 8
MOST_PAIRS = 36


class Suits:
    """One to eight kinds, and which of them suit each other or themselves."""

    def __init__(self, kinds, pairs):
        if not _are_names(kinds):
            raise Wrong(0)
        if not isinstance(pairs, list) or len(pairs) > MOST_PAIRS:
            raise Wrong(1)
        ordered = _ordered_pairs(kinds, pairs)
        self._kinds = sorted(kinds)
        self._pairs = ordered
        self._mates = {kind: _mates_of(kind, ordered) for kind in kinds}

    def __eq__(self, other):
        return isinstance(other, Suits) and self._kinds == other._kinds and self._pairs == other._pairs

    def __len__(self):
        return len(self._kinds)

    def __repr__(self):
        return f"Suits({self.kinds()!r}, {self.pairs()!r})"

    def __call__(self, one, other):
        for kind in (one, other):
            if kind not in self._kinds:
                raise NoKind(kind)
        return other in self._mates[one]

    def __contains__(self, x):
        return _is_pair(self._kinds, x) and x[1] in self._mates[x[0]]

    @property
    def many(self):
        """The number of the pairs."""
        return len(self._pairs)

    def kinds(self):
        """All kinds, in ascending order."""
        return list(self._kinds)

    def pairs(self):
        """All pairs, in ascending order, the lesser kind of each first."""
        return list(self._pairs)

    def lonely(self):
        """The kinds without mates, in ascending order."""
        return [kind for kind in self._kinds if not self._mates[kind]]

    def mates(self, kinds):
        """The kinds that suit at least one of several kinds, in ascending order."""
        asked = [kind for kind in self._kinds if kind in kinds]
        return [mate for mate in self._kinds if any([kind in self._mates[mate] for kind in asked])]

    def is_calm(self, kinds):
        """Whether no kind of a set suits a kind of the set, itself included."""
        return not any([mate in kinds for mate in self.mates(kinds)])

    def calm_sets(self):
        """All calm sets, in ascending order."""
        found = [[]]
        for kind in self._kinds:
            # Each part of a calm set is calm, so a set that is not calm need not grow.
            wider = [calm + [kind] for calm in found]
            found = found + [kinds for kinds in wider if self.is_calm(kinds)]
        return sorted(found)

    @classmethod
    def ring(cls, kinds):
        """The relation in which each kind suits the next one, and the last one the first one."""
        # A set, since two kinds alone are each other's next one.
        return cls(kinds, sorted({_ordered(kinds[at - 1], kinds[at]) for at in range(len(kinds))}))

    @classmethod
    def each(cls, kinds):
        """The relation in which each two different kinds suit each other."""
        return cls(kinds, [(one, other) for one in kinds for other in kinds if one < other])


def is_set(suits, thing):
    """Whether a value is a list of different kinds of the relation, in ascending order."""
    return are_kinds(thing) and thing == [kind for kind in suits.kinds() if kind in thing]


def _are_names(thing):
    """Whether a value is a list of one to eight different kinds."""
    if not isinstance(thing, list) or not 1 <= len(thing) <= MOST_KINDS:
        return False
    return are_kinds(thing) and len(set(thing)) == len(thing)


def _is_pair(kinds, thing):
    """Whether a value is a tuple of two of the kinds."""
    if not isinstance(thing, tuple) or len(thing) != 2:
        return False
    # Other values may not be comparable, so only kinds are looked for.
    return all([is_kind(item) and item in kinds for item in thing])


def _ordered(one, other):
    """The pair of two kinds, the lesser one first."""
    return (one, other) if one <= other else (other, one)


def _ordered_pairs(kinds, things):
    """The pairs that a list of values says, in ascending order."""
    found = []
    for at, thing in enumerate(things):
        if not _is_pair(kinds, thing):
            raise BadPair(at)
        pair = _ordered(thing[0], thing[1])
        if pair in found:
            raise BadPair(at)
        found.append(pair)
    return sorted(found)


def _mates_of(kind, pairs):
    """The other kinds of the pairs in which a kind stands."""
    return [one if other == kind else other for one, other in pairs if kind in (one, other)]
