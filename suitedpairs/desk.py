"""The desk: a Book, and questions about its line, by lines of text."""

from suitedpairs.alike import compare
from suitedpairs.books import Book
from suitedpairs.errors import NoCommand
from suitedpairs.films import finish
from suitedpairs.lines import MOST_NEWCOMERS, is_line, is_row
from suitedpairs.notation import deed_of, row_of, show_deed, show_row
from suitedpairs.reaching import fewest
from suitedpairs.rounds import again

NOBODY = "-"
MOST_DIGITS = 40
MOST_TIMES = 10 ** 18
MOST_OF_A_ROUND = 40
MOST_TO_COMPARE = 16


def _come(book, words):
    """come NAME KIND: a newcomer comes."""
    deed = _read_deed(["come"] + words)
    _demand(deed[2] in book.suits().kinds())
    return book.come(deed[1], deed[2]) or NOBODY


def _go(book, words):
    """go NAME: a waiting person goes alone."""
    deed = _read_deed(["go"] + words)
    book.go(deed[1])
    return "ok"


def _late(book, words):
    """late AT DEED: a deed is put into the log."""
    at = _read_number(words[:1])
    deed = _read_deed(words[1:])
    return " ".join(book.late(at, deed))


def _cut(book, words):
    """cut AT: a deed is taken out of the log."""
    return " ".join(book.cut(_read_number(words)))


def _back(book, words):
    """back: the last deed is taken out of the log."""
    _demand(words == [])
    return show_deed(book.back())


def _again(book, words):
    """again: it is done once more."""
    _demand(words == [])
    return show_deed(book.again())


def _line(book, words):
    """line: the persons who wait."""
    _demand(words == [])
    return " ".join([f"{name}:{kind}" for name, kind in book.line()]) or NOBODY


def _pairs(book, words):
    """pairs: those who have left together."""
    _demand(words == [])
    return " ".join([f"{first}:{newcomer}" for first, newcomer in book.pairs()]) or NOBODY


def _log(book, words):
    """log: the deeds."""
    _demand(words == [])
    return "; ".join([show_deed(deed) for deed in book.log()]) or NOBODY


def _partner(book, words):
    """partner NAME: the person with whom somebody has left."""
    # A name is what can go.
    deed = _read_deed(["go"] + words)
    return book.partner(deed[1]) or NOBODY


def _finish(book, words):
    """finish: the least of the shortest rows after which nobody waits."""
    _demand(words == [])
    return show_row(finish(book.suits(), _waiting_kinds(book)))


def _rounds(book, words):
    """rounds TIMES KINDS: the line after a row has come so many times."""
    times = _read_number(words[:1])
    row = _read_row(book, words[1:], MOST_OF_A_ROUND)
    _demand(times <= MOST_TIMES)
    return show_row(again(book.suits(), _waiting_kinds(book), row, times))


def _reach(book, words):
    """reach KINDS: the fewest newcomers to another line."""
    goal = _read_row(book, words, MOST_NEWCOMERS)
    _demand(is_line(book.suits(), goal))
    word, found = fewest(book.suits(), _waiting_kinds(book), goal)
    return str(len(found)) if word == "row" else word


def _alike(book, words):
    """alike KINDS / KINDS: whether two rows do the same to every line."""
    _demand("/" in words)
    middle = words.index("/")
    one = _read_row(book, words[:middle], MOST_TO_COMPARE)
    other = _read_row(book, words[middle + 1:], MOST_TO_COMPARE)
    word, found = compare(book.suits(), one, other)
    return word if word == "alike" else f"{word} {show_row(found)}"


def _demand(so):
    """Raise the error for a line that is no command, if something is not so."""
    if not so:
        raise NoCommand()


def _read_number(words):
    """The number that a single word writes."""
    _demand(len(words) == 1)
    word = words[0]
    _demand(word.isascii() and word.isdigit() and len(word) <= MOST_DIGITS)
    _demand(word == "0" or not word.startswith("0"))
    return int(word)


def _read_deed(words):
    """The deed that words write."""
    deed = deed_of(words)
    _demand(deed is not None)
    return deed


def _read_row(book, words, most):
    """The row of at most so many kinds of the relation that words write."""
    row = row_of(words)
    _demand(row is not None and len(row) <= most and is_row(book.suits(), row))
    return row


def _waiting_kinds(book):
    """The kinds of the persons who wait, in their order."""
    return [kind for name, kind in book.line()]


COMMANDS = {
    "come": _come, "go": _go, "late": _late, "cut": _cut, "back": _back, "again": _again, "line": _line,
    "pairs": _pairs, "log": _log, "partner": _partner, "finish": _finish, "rounds": _rounds, "reach": _reach,
    "alike": _alike,
}


class Desk:
    """A Book that is told its deeds, and asked, by lines of text."""

    def __init__(self, suits):
        self._book = Book(suits)

    def execute(self, line):
        """Do what a line says, and return the answer."""
        _demand(isinstance(line, str))
        words = line.split(" ")
        _demand(words[0] in COMMANDS)
        command = COMMANDS[words[0]]
        return command(self._book, words[1:])
