"""Names and deeds: what the log of a Book consists of."""

from suitedpairs.kinds import is_kind

MOST_DEEDS = 200


def is_name(thing):
    """Whether a value is a name."""
    # Names are made of the same letters as kinds, and are as long.
    return is_kind(thing)


def is_deed(thing):
    """Whether a value is a deed, with a kind of any relation."""
    if not isinstance(thing, tuple) or not all([isinstance(part, str) for part in thing]):
        return False
    if len(thing) == 2:
        return thing[0] == "go" and is_name(thing[1])
    return len(thing) == 3 and thing[0] == "come" and is_name(thing[1]) and is_kind(thing[2])
