"""Books: persons by their names, also if the past is changed."""

from suitedpairs.deeds import MOST_DEEDS, is_name
from suitedpairs.errors import Full, Nothing, NotWaiting, Taken, Wrong
from suitedpairs.hall import Hall, hall_after
from suitedpairs.kinds import is_index, is_kind
from suitedpairs.suits import Suits


class Book:
    """The persons who come to the empty line of a relation, and the log of the deeds."""

    def __init__(self, suits):
        if not isinstance(suits, Suits):
            raise Wrong(0)
        self._suits = suits
        self._log = []
        self._taken_out = []
        self._hall = Hall(suits)

    def __eq__(self, other):
        return isinstance(other, Book) and self._suits == other._suits and self._log == other._log

    def __len__(self):
        return len(self._log)

    @property
    def waiting(self):
        """The number of persons who wait."""
        return len(self._hall.waiters)

    def come(self, name, kind):
        """Let a newcomer come; the name of the person with whom it leaves, or None."""
        if not is_name(name):
            raise Wrong(0)
        if not is_kind(kind) or kind not in self._suits.kinds():
            raise Wrong(1)
        deed = ("come", name, kind)
        if not self._hall.can(deed):
            raise Taken(name)
        self._add(deed)
        return self._hall.partners[name]

    def go(self, name):
        """Let a waiting person go alone."""
        if not is_name(name):
            raise Wrong(0)
        deed = ("go", name)
        if not self._hall.can(deed):
            raise NotWaiting(name)
        self._add(deed)

    def late(self, at, deed):
        """Put a deed into the log before that of an index; the one person who then waits, or does no longer wait."""
        if not is_index(at, len(self._log) + 1):
            raise Wrong(0)
        self._demand_room()
        return self._replace(self._log[:at] + [deed] + self._log[at:])

    def cut(self, at):
        """Take the deed of an index out of the log; the one person who then waits, or does no longer wait."""
        if not is_index(at, len(self._log)):
            raise Wrong(0)
        return self._replace(self._log[:at] + self._log[at + 1:])

    def back(self):
        """Take the last deed out of the log."""
        if not self._log:
            raise Nothing()
        deed = self._log.pop()
        self._taken_out.append(deed)
        self._hall = hall_after(self._suits, self._log)
        return deed

    def again(self):
        """Do the deed once more that was taken out last."""
        if not self._taken_out:
            raise Nothing()
        deed = self._taken_out.pop()
        self._hall.do(deed)
        self._log.append(deed)
        return deed

    def line(self):
        """The names and kinds of the persons who wait, in their order."""
        return list(self._hall.waiters)

    def pairs(self):
        """The names of partners, the one who waited first, in the order in which they left."""
        return list(self._hall.couples)

    def partner(self, name):
        """The name of a person's partner, or None."""
        if name not in self._hall.partners:
            raise NotWaiting(name)
        return self._hall.partners[name]

    def log(self):
        """The deeds."""
        return list(self._log)

    def suits(self):
        """The relation."""
        return self._suits

    def copied(self):
        """A Book with the same log, and the same deeds for again."""
        twin = Book(self._suits)
        twin._log = list(self._log)
        twin._taken_out = list(self._taken_out)
        twin._hall = hall_after(self._suits, self._log)
        return twin

    def _demand_room(self):
        """Raise the error if the log has as many deeds as it may have."""
        if len(self._log) >= MOST_DEEDS:
            raise Full(MOST_DEEDS)

    def _add(self, deed):
        """Do a deed that can be done, if there is room for it."""
        self._demand_room()
        self._hall.do(deed)
        self._log.append(deed)
        self._taken_out = []

    def _replace(self, log):
        """Go on with another log; tell the one person who waits only before or only after it."""
        hall = hall_after(self._suits, log)
        told = _difference(self._hall.waiters, hall.waiters)
        self._log = log
        self._taken_out = []
        self._hall = hall
        return told


def _difference(before, now):
    """The word and the name of the one person who waits in one of two lines only."""
    names = [name for name, kind in before]
    other_names = [name for name, kind in now]
    more = [name for name in other_names if name not in names]
    if more:
        return "more", more[0]
    return "fewer", [name for name in names if name not in other_names][0]
