"""Relations, rows and deeds as texts."""

from suitedpairs.deeds import MOST_DEEDS, is_deed
from suitedpairs.errors import BadPair, NoText, Wrong
from suitedpairs.kinds import are_kinds, is_kind
from suitedpairs.lines import MOST_NEWCOMERS
from suitedpairs.suits import Suits

EMPTY_ROW = "-"


def show_suits(suits):
    """The text of a relation."""
    return " ".join(suits.kinds() + [f"{one}-{other}" for one, other in suits.pairs()])


def show_row(row):
    """The text of a line or a row."""
    return " ".join(row) if row else EMPTY_ROW


def show_deeds(deeds):
    """The text of a list of deeds."""
    return "\n".join([show_deed(deed) for deed in deeds])


def show_deed(deed):
    """The line of text of one deed."""
    return " ".join(deed)


def read_suits(text):
    """The relation that a text writes."""
    words = _split(text, " ")
    kinds = [word for word in words if is_kind(word)]
    pairs = [tuple(word.split("-")) for word in words if not is_kind(word)]
    try:
        suits = Suits(kinds, pairs)
    except (Wrong, BadPair):
        raise NoText() from None
    # A relation takes its words in any order, but it has only one text.
    if show_suits(suits) != text:
        raise NoText()
    return suits


def read_row(text):
    """The list of kinds that a text writes."""
    row = row_of(_split(text, " "))
    if row is None:
        raise NoText()
    return row


def read_deeds(text):
    """The list of deeds that a text writes."""
    lines = _split(text, "\n")
    if text == "":
        return []
    deeds = [deed_of(line.split(" ")) for line in lines]
    if len(deeds) > MOST_DEEDS or None in deeds:
        raise NoText()
    return deeds


def row_of(words):
    """The list of kinds that some words write, or None."""
    if words == [EMPTY_ROW]:
        return []
    return list(words) if are_kinds(words) and 1 <= len(words) <= MOST_NEWCOMERS else None


def deed_of(words):
    """The deed that some words write, or None."""
    deed = tuple(words)
    return deed if is_deed(deed) else None


def _split(text, mark):
    """The parts of a text, which may be any value, between the marks."""
    if not isinstance(text, str):
        raise NoText()
    return text.split(mark)
