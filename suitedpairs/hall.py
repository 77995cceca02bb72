"""Where the persons of a Book wait: what comes of its deeds."""

from suitedpairs.deeds import is_deed
from suitedpairs.errors import Broken
from suitedpairs.lines import come


class Hall:
    """The persons who have come to the empty line of a relation, after some deeds."""

    def __init__(self, suits):
        self._suits = suits
        self.waiters = []
        self.couples = []
        self.partners = {}

    def can(self, thing):
        """Whether a value is a deed that can be done now."""
        if not is_deed(thing):
            return False
        if thing[0] == "go":
            return thing[1] in [name for name, kind in self.waiters]
        return thing[1] not in self.partners and thing[2] in self._suits.kinds()

    def do(self, deed):
        """Do a deed that can be done."""
        if deed[0] == "go":
            self.waiters = [waiter for waiter in self.waiters if waiter[0] != deed[1]]
        else:
            self._let_come(deed[1], deed[2])

    def _let_come(self, name, kind):
        """Let a newcomer come, as the rule says."""
        place = come(self._suits, [waiter[1] for waiter in self.waiters], kind)[0]
        self.partners[name] = None
        if place is None:
            self.waiters.append((name, kind))
        else:
            first = self.waiters.pop(place)[0]
            self.couples.append((first, name))
            self.partners[name] = first
            self.partners[first] = name


def hall_after(suits, deeds):
    """The Hall after a list of values, all of which have to be deeds that can be done."""
    hall = Hall(suits)
    for at, deed in enumerate(deeds):
        if not hall.can(deed):
            raise Broken(at)
        hall.do(deed)
    return hall
