"""A Book by the words of the document, to compare the program with: everything is told from the log each time.

Each answer is a tuple of "value" and what is returned, or of the name of an error and its fields.
"""

from tests import model

LETTERS = "abcdefghijklmnopqrstuvwxyz"


def is_name(thing):
    """Whether a value is a name, or a kind of some relation."""
    return isinstance(thing, str) and 1 <= len(thing) <= 8 and all(letter in LETTERS for letter in thing)


def is_deed(kinds, thing):
    """Whether a value is a deed, its kind being one of the kinds."""
    if not isinstance(thing, tuple):
        return False
    if len(thing) == 3:
        return thing[0] == "come" and is_name(thing[1]) and is_name(thing[2]) and thing[2] in kinds
    return len(thing) == 2 and thing[0] == "go" and is_name(thing[1])


def told(kinds, pairs, deeds):
    """The line, the pairs and the partners after some deeds; or the index of the first one that cannot be done."""
    line, couples, partners = [], [], {}
    for at, deed in enumerate(deeds):
        if not is_deed(kinds, deed):
            return at
        if deed[0] == "go":
            if deed[1] not in [name for name, _ in line]:
                return at
            line = [(name, kind) for name, kind in line if name != deed[1]]
            continue
        _, newcomer, kind = deed
        if newcomer in partners:
            return at
        fit = [person for person in line if model.do_suit(pairs, person[1], kind)]
        partners[newcomer] = fit[0][0] if fit else None
        if fit:
            line.remove(fit[0])
            couples.append((fit[0][0], newcomer))
            partners[fit[0][0]] = newcomer
        else:
            line.append((newcomer, kind))
    return line, couples, partners


class Ledger:
    def __init__(self, kinds, pairs):
        self.kinds, self.pairs = kinds, pairs
        self.deeds, self.undone = [], []

    def now(self):
        return told(self.kinds, self.pairs, self.deeds)

    def come(self, name, kind):
        if not is_name(name):
            return "Wrong", {"place": 0}
        if not is_name(kind) or kind not in self.kinds:
            return "Wrong", {"place": 1}
        if name in self.now()[2]:
            return "Taken", {"name": name}
        return self.add(("come", name, kind)) or ("value", self.now()[2][name])

    def go(self, name):
        if not is_name(name):
            return "Wrong", {"place": 0}
        if name not in [one for one, _ in self.now()[0]]:
            return "NotWaiting", {"name": name}
        return self.add(("go", name)) or ("value", None)

    def add(self, deed):
        """Add a deed; the error if there is no room."""
        if len(self.deeds) == 200:
            return "Full", {"limit": 200}
        self.deeds, self.undone = self.deeds + [deed], []
        return None

    def late(self, at, deed):
        if at.__class__ is not int or not 0 <= at <= len(self.deeds):
            return "Wrong", {"place": 0}
        if len(self.deeds) == 200:
            return "Full", {"limit": 200}
        return self.replace(self.deeds[:at] + [deed] + self.deeds[at:])

    def cut(self, at):
        if at.__class__ is not int or not 0 <= at < len(self.deeds):
            return "Wrong", {"place": 0}
        return self.replace(self.deeds[:at] + self.deeds[at + 1:])

    def replace(self, deeds):
        """Go on with other deeds, if all of them can be done."""
        found = told(self.kinds, self.pairs, deeds)
        if isinstance(found, int):
            return "Broken", {"at": found}
        before, after = [{name for name, _ in line} for line in (self.now()[0], found[0])]
        more, fewer = sorted(after - before), sorted(before - after)
        if len(more) + len(fewer) != 1:
            raise AssertionError("the lines do not differ by one person")
        self.deeds, self.undone = deeds, []
        return "value", ("more", more[0]) if more else ("fewer", fewer[0])

    def back(self):
        if not self.deeds:
            return "Nothing", {}
        self.undone = self.undone + self.deeds[-1:]
        self.deeds = self.deeds[:-1]
        return "value", self.undone[-1]

    def again(self):
        if not self.undone:
            return "Nothing", {}
        self.deeds = self.deeds + self.undone[-1:]
        self.undone = self.undone[:-1]
        return "value", self.deeds[-1]

    def line(self):
        return "value", self.now()[0]

    def couples(self):
        return "value", self.now()[1]

    def partner(self, name):
        partners = self.now()[2]
        return ("value", partners[name]) if name in partners else ("NotWaiting", {"name": name})

    def log(self):
        return "value", self.deeds


def answer(call, *arguments):
    """What a call of the program returns or raises, as the answers here."""
    try:
        return "value", call(*arguments)
    except ValueError as error:
        return error.__class__.__name__, vars(error)
