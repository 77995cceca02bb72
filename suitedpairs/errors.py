"""The errors of the package: each one keeps what it was given, under the name in its signature."""


class SuitError(ValueError):
    """Any error of this package."""


class Wrong(SuitError):
    """The argument at this place is not as described."""

    def __init__(self, place):
        self.place = place


class BadPair(SuitError):
    """The item of this index is no pair, or the pair of an earlier item."""

    def __init__(self, at):
        self.at = at


class NoKind(SuitError):
    """This is no kind of the relation."""

    def __init__(self, kind):
        self.kind = kind


class NotComplete(SuitError):
    """So many persons are left waiting after the row."""

    def __init__(self, left):
        self.left = left


class Lonely(SuitError):
    """Nobody suits this kind."""

    def __init__(self, kind):
        self.kind = kind


class TooMany(SuitError):
    """More than this limit would be needed."""

    def __init__(self, limit):
        self.limit = limit


class Crowded(SuitError):
    """The crowd of these kinds has no shares."""

    def __init__(self, members):
        self.members = members


class Taken(SuitError):
    """A person of this name has come before."""

    def __init__(self, name):
        self.name = name


class NotWaiting(SuitError):
    """Nobody of this name waits."""

    def __init__(self, name):
        self.name = name


class Full(SuitError):
    """The log has as many deeds as this limit."""

    def __init__(self, limit):
        self.limit = limit


class Broken(SuitError):
    """What stands at this index cannot be done."""

    def __init__(self, at):
        self.at = at


# The last three define a constructor only because ValueError's own would accept arguments.


class Nothing(SuitError):
    """There is nothing to take back or to do again."""

    def __init__(self):
        pass


class NoText(SuitError):
    """The text writes nothing that can be read."""

    def __init__(self):
        pass


class NoCommand(SuitError):
    """The line is no command."""

    def __init__(self):
        pass
