"""[100], [101], [4]: Books."""

import random
import unittest

from suitedpairs.books import Book
from suitedpairs.errors import Broken, Full, Nothing, NotWaiting, Taken, Wrong
from suitedpairs.lines import after
from suitedpairs.pairing import partners
from suitedpairs.suits import Suits
from tests import model
from tests.ledger import Ledger, answer
from tests.values import Keeping, nested, odd_values

KINDS, PAIRS = ["a", "b", "c"], [("a", "b"), ("b", "c"), ("c", "c")]
R = Suits(KINDS, PAIRS)
NAMES = ["ann", "bob", "cyd", "dan", "eve", "fay", "gus", "hal"]
ODD_DEEDS = [
    ["come", "ann", "a"], ("come", "ann"), ("go", "ann", "a"), ("come", "Ann", "a"), ("come", "", "a"),
    ("come", "abcdefghi", "a"), ("come", "ann", "A"), ("come", "ann", "x"), ("come", "ann", ""), ("come", "ann", None),
    ("came", "ann", "a"), ("Come", "ann", "a"), ("", "ann", "a"), ("go",), ("go", ""), ("go", 1), ("go", None),
    ["go", "ann"], ("gone", "ann"), ("come", "ann", "a", "a"), ("come", ("ann",), "a"), ("come", "ann", ["a"]),
    (("come", "ann", "a"),), "come ann a", "go", b"go", ("come", b"ann", "a"), (b"go", "ann"), ("go", "an n"),
    ("go", "ann\n"), (None, "ann"), ("come", "ann", "abcdefghi"), (1, 2, 3), (["come"], "ann", "a"), ({}, "ann"),
    ("come", {}, "a"), ("back",), ("again",),
]


class EqualToAll:
    """A value that says of itself that it is equal to any other one."""

    def __eq__(self, other):
        return True



def filled(*deeds, suits=R):
    """A Book that was told these deeds."""
    book = Book(suits)
    for deed in deeds:
        if deed[0] == "come":
            book.come(*deed[1:])
        else:
            book.go(deed[1])
    return book


def state(book):
    """All that a Book tells."""
    names = sorted({deed[1] for deed in book.log()})
    return repr((len(book), book.waiting, book.line(), book.pairs(), [book.partner(name) for name in names], book.log(),
                 book.suits()))


def what_again_does(book):
    """The deeds that again has to do, one after another, told of a copy."""
    twin = book.copied()
    found = []
    while True:
        word, deed = answer(twin.again)
        if word == "Nothing":
            return found
        found.append(deed)


class AgainstTheWords(unittest.TestCase):
    """Deeds in any order, right and wrong ones, told to a Book and to the words of the document."""

    def assert_same(self, book, ledger):
        line = ledger.line()[1]
        self.assertEqual((len(book), book.waiting), (len(ledger.deeds), len(line)))
        self.assertEqual(("value", book.line()), ledger.line())
        self.assertEqual(("value", book.pairs()), ledger.couples())
        self.assertEqual(("value", book.log()), ledger.log())
        for name in NAMES:
            self.assertEqual(answer(book.partner, name), ledger.partner(name))
        self.assertEqual(what_again_does(book), ledger.undone[::-1])

    def random_deed(self, chance, kinds):
        if chance.random() < 0.08:
            return chance.choice(ODD_DEEDS)
        if chance.random() < 0.3:
            return ("go", chance.choice(NAMES))
        return ("come", chance.choice(NAMES), chance.choice(kinds))

    def random_call(self, chance, kinds, many):
        """The name of a method, and its arguments."""
        word = chance.choice(["come"] * 6 + ["go", "go", "late", "late", "late", "cut", "cut", "back", "back", "again",
                                             "again", "again"])
        if word == "come":
            return word, [chance.choice(NAMES + ["Ann"]), chance.choice(kinds * 3 + ["x", None])]
        if word == "go":
            return word, [chance.choice(NAMES + [""])]
        at = chance.choice([*range(-1, many + 2), *range(many), None, True])
        if word == "late":
            return word, [at, self.random_deed(chance, kinds)]
        return word, [at] if word == "cut" else []

    def test_deeds_in_any_order(self):
        chance = random.Random(111)
        said = {}
        relations = model.small_relations()
        for _ in range(200):
            kinds, pairs = chance.choice(relations + [(KINDS, PAIRS)] * 20)
            book, ledger = Book(Suits(kinds, pairs)), Ledger(sorted(kinds), pairs)
            for _ in range(35):
                word, arguments = self.random_call(chance, sorted(kinds), len(ledger.deeds))
                wanted = getattr(ledger, word)(*arguments)
                self.assertEqual(answer(getattr(book, word), *arguments), wanted)
                self.assert_same(book, ledger)
                said[word, wanted[0]] = said.get((word, wanted[0]), 0) + 1
        for one in [("come", "value"), ("come", "Wrong"), ("come", "Taken"), ("go", "value"), ("go", "NotWaiting"),
                    ("late", "value"), ("late", "Broken"), ("late", "Wrong"), ("cut", "value"), ("cut", "Broken"),
                    ("cut", "Wrong"), ("back", "value"), ("back", "Nothing"), ("again", "value"), ("again", "Nothing")]:
            self.assertGreater(said.get(one, 0), 9, one)

    def test_large_relations_and_long_logs(self):
        chance = random.Random(112)
        for kinds, pairs in model.large_relations(1):
            book, ledger = Book(Suits(kinds, pairs)), Ledger(sorted(kinds), pairs)
            for many in range(60):
                name = NAMES[many % 8][:2] + "xyzuvwrs"[many // 8]
                kind = chance.choice(kinds)
                self.assertEqual(answer(book.come, name, kind), ledger.come(name, kind))
                if many % 3 == 2:
                    at = chance.randint(0, many - 1)
                    deed = ("come", f"late{'abcdefghijklmnopqrstuvwxyz'[many // 3]}", chance.choice(kinds))
                    self.assertEqual(answer(book.late, at, deed), ledger.late(at, deed))
                if many % 5 == 4:
                    at = chance.randint(0, len(book) - 1)
                    self.assertEqual(answer(book.cut, at), ledger.cut(at))
            self.assert_same(book, ledger)


class Creating(Keeping, unittest.TestCase):
    def test_the_empty_book(self):
        for kinds, pairs in model.small_relations():
            book = Book(Suits(kinds, pairs))
            self.assertEqual((len(book), book.waiting, book.line(), book.pairs(), book.log()), (0, 0, [], [], []))
            self.assertEqual(book.suits(), Suits(kinds, pairs))

    def test_values_that_are_no_relations(self):
        for value in odd_values() + [Suits, Book, Book(R), [R], (R,), repr(R), {"a": R}, KINDS, (KINDS, PAIRS)]:
            self.assertEqual(self.raised(Wrong, Book, value).place, 0)


class Come(Keeping, unittest.TestCase):
    def test_who_leaves_and_who_joins(self):
        book = Book(R)
        self.assertEqual([book.come("ann", "a"), book.come("bob", "c"), book.come("cyd", "b"), book.come("dan", "b")],
                         [None, None, "ann", "bob"])
        self.assertEqual((book.line(), book.pairs(), book.waiting), ([], [("ann", "cyd"), ("bob", "dan")], 0))

    def test_as_a_run_from_the_empty_line(self):
        chance = random.Random(113)
        for kinds, pairs in model.small_relations() + model.large_relations(1):
            suits = Suits(kinds, pairs)
            row = model.random_row(chance, kinds, 12)
            names = ["n" + "abcdefghijkl"[number] for number in range(12)]
            book = filled(*[("come", name, kind) for name, kind in zip(names, row)], suits=suits)
            links = partners(suits, [], row)
            wanted = [None if at is None else names[at] for at in links]
            self.assertEqual([book.partner(name) for name in names], wanted)
            self.assertEqual([kind for _, kind in book.line()], after(suits, [], row))
            self.assertEqual([name for name, _ in book.line()], [names[at] for at in range(12) if links[at] is None])
            leavers = [(names[other], names[at]) for at, other in enumerate(links) if other is not None and other < at]
            self.assertEqual(book.pairs(), leavers)

    def test_arguments_of_other_kinds(self):
        book = filled(("come", "ann", "a"))
        before = state(book)
        names = odd_values() + ["Ann", "an n", "abcdefghi", "ann ", "ann\n", "", "a-b", "ann:a", nested(8), ("ann",), R]
        for value in names:
            self.assertEqual(self.raised(Wrong, book.come, value, "a").place, 0)
            self.assertEqual(self.raised(Wrong, book.come, value, value).place, 0)
            self.assertEqual(self.raised(Wrong, book.come, "bob", value).place, 1)
            # Wrong is raised before any other error.
            self.assertEqual(self.raised(Wrong, book.come, "ann", value).place, 1)
        self.assertEqual(state(book), before)

    def test_kinds_that_the_relation_does_not_have(self):
        book = filled(("come", "ann", "a"))
        for kind in ("x", "aa", "ab", "A", "bc", "abcdefgh", ["a"], ("a",), EqualToAll()):
            self.assertEqual(self.raised(Wrong, book.come, "bob", kind).place, 1)
        self.assertEqual(book.come("bob", "b"), "ann")

    def test_the_letters_of_names(self):
        for name in ("a", "z", "abcdefgh", "zzzzzzzz", "come", "go"):
            self.assertEqual(filled(("come", name, "a")).line(), [(name, "a")])

    def test_taken_names(self):
        book = filled(("come", "ann", "a"), ("come", "bob", "a"), ("come", "cyd", "b"), ("come", "dan", "c"),
                      ("go", "dan"))
        # Whether they wait, have left with a partner, or went alone.
        for name in ("ann", "bob", "cyd", "dan"):
            for kind in KINDS:
                before = state(book)
                self.assertEqual(self.raised(Taken, book.come, name, kind).name, name)
                self.assertEqual(state(book), before)
        self.assertEqual(book.come("eve", "b"), "bob")

    def test_a_name_is_free_when_its_deed_is_out_of_the_log(self):
        book = filled(("come", "ann", "a"))
        book.back()
        self.assertEqual(book.come("ann", "b"), None)
        book.cut(0)
        self.assertEqual(book.come("ann", "c"), None)
        self.assertEqual(book.line(), [("ann", "c")])


class Go(Keeping, unittest.TestCase):
    def test_out_of_the_line_alone(self):
        book = filled(("come", "ann", "a"), ("come", "bob", "a"), ("come", "cyd", "a"))
        self.assertIs(book.go("bob"), None)
        self.assertEqual((book.line(), book.pairs(), book.waiting), ([("ann", "a"), ("cyd", "a")], [], 2))
        self.assertEqual([book.come("dan", "b"), book.come("eve", "b")], ["ann", "cyd"])
        self.assertEqual(book.partner("bob"), None)

    def test_who_does_not_wait(self):
        book = filled(("come", "ann", "a"), ("come", "bob", "b"), ("come", "cyd", "a"), ("go", "cyd"))
        before = state(book)
        for name in ("ann", "bob", "cyd", "dan", "a", "abcdefgh"):
            self.assertEqual(self.raised(NotWaiting, book.go, name).name, name)
        self.assertEqual(state(book), before)

    def test_arguments_of_other_kinds(self):
        book = filled(("come", "ann", "a"))
        for value in odd_values() + ["Ann", "an n", "abcdefghi", "ann ", "", ("ann",), ["ann"], nested(8), R]:
            self.assertEqual(self.raised(Wrong, book.go, value).place, 0)
        self.assertEqual(book.line(), [("ann", "a")])


class FullBooks(Keeping, unittest.TestCase):
    def full(self):
        """A Book with 200 deeds: persons who come, and by turns leave with a partner or go; the last two wait."""
        book = Book(R)
        for many in range(99):
            name = "abcdefghij"[many // 10] + "abcdefghij"[many % 10]
            book.come(name, "a")
            if many % 2 == 0:
                book.come("x" + name, "b")
            else:
                book.go(name)
        book.come("almost", "a")
        book.come("last", "a")
        return book

    def test_200_deeds(self):
        book = self.full()
        self.assertEqual(len(book), 200)
        before = state(book)
        self.assertEqual(self.raised(Full, book.come, "new", "a").limit, 200)
        self.assertEqual(self.raised(Full, book.go, "last").limit, 200)
        for at in (0, 7, 199, 200):
            self.assertEqual(self.raised(Full, book.late, at, ("come", "new", "a")).limit, 200)
            self.assertEqual(self.raised(Full, book.late, at, None).limit, 200)
        self.assertEqual(state(book), before)

    def test_the_other_errors_come_first(self):
        book = self.full()
        self.assertEqual(self.raised(Taken, book.come, "aa", "a").name, "aa")
        self.assertEqual(self.raised(NotWaiting, book.go, "aa").name, "aa")
        self.assertEqual(self.raised(NotWaiting, book.go, "new").name, "new")
        self.assertEqual(self.raised(Wrong, book.come, "Aa", "a").place, 0)
        self.assertEqual(self.raised(Wrong, book.come, "aa", "x").place, 1)
        self.assertEqual(self.raised(Wrong, book.go, None).place, 0)
        for at in (-1, 201, None, True):
            self.assertEqual(self.raised(Wrong, book.late, at, ("come", "new", "a")).place, 0)

    def test_one_deed_fewer(self):
        book = self.full()
        self.assertEqual(book.back(), ("come", "last", "a"))
        self.assertEqual(book.again(), ("come", "last", "a"))
        self.assertEqual(len(book), 200)
        self.assertEqual(book.cut(199), ("fewer", "last"))
        self.assertEqual(book.late(199, ("come", "new", "a")), ("more", "new"))
        self.assertEqual(len(book), 200)
        self.assertEqual(self.raised(Full, book.come, "newer", "a").limit, 200)

    def test_199_deeds(self):
        book = self.full()
        book.back()
        self.assertEqual(len(book), 199)
        self.assertEqual(book.come("new", "a"), None)
        self.assertEqual(self.raised(Full, book.go, "new").limit, 200)
        book.back()
        ledger = Ledger(KINDS, PAIRS)
        ledger.deeds = book.log()
        self.assertEqual(("value", book.late(99, ("come", "new", "a"))), ledger.late(99, ("come", "new", "a")))
        self.assertEqual((len(book), ("value", book.line())), (200, ledger.line()))


class Late(Keeping, unittest.TestCase):
    def test_the_word_and_the_name(self):
        deeds = [("come", "ann", "a"), ("come", "bob", "c"), ("come", "cyd", "b")]
        book = filled(*deeds)
        self.assertEqual(book.late(0, ("come", "dan", "c")), ("fewer", "bob"))
        self.assertEqual(book.pairs(), [("dan", "bob"), ("ann", "cyd")])
        book = filled(*deeds)
        self.assertEqual(book.late(3, ("come", "dan", "c")), ("fewer", "bob"))
        self.assertEqual(filled(*deeds).late(0, ("come", "dan", "a")), ("more", "ann"))
        self.assertEqual(filled(*deeds).late(1, ("come", "dan", "a")), ("more", "dan"))
        self.assertEqual(filled(*deeds).late(1, ("go", "ann")), ("fewer", "bob"))
        self.assertEqual(filled(*deeds).late(3, ("go", "bob")), ("fewer", "bob"))
        self.assertEqual(filled(*deeds[:2]).late(1, ("go", "ann")), ("fewer", "ann"))
        self.assertEqual(filled().late(0, ("come", "ann", "a")), ("more", "ann"))

    def test_at_each_place_as_in_time(self):
        chance = random.Random(114)
        for kinds, pairs in model.small_relations()[::3] + [(KINDS, PAIRS)] * 5:
            suits = Suits(kinds, pairs)
            deeds = [("come", name, chance.choice(kinds)) for name in NAMES]
            for at, deed in enumerate(deeds):
                book = filled(*deeds[:at], *deeds[at + 1:], suits=suits)
                before = {name for name, _ in book.line()}
                word, name = book.late(at, deed)
                now = {name for name, _ in book.line()}
                self.assertEqual(state(book), state(filled(*deeds, suits=suits)))
                self.assertEqual((now - before, before - now), ({name}, set()) if word == "more" else (set(), {name}))

    def test_values_that_are_no_deeds(self):
        for at in range(3):
            book = filled(("come", "cyd", "a"), ("come", "bob", "b"))
            book.come("dan", "c")
            book.back()
            before = state(book)
            for value in ODD_DEEDS + odd_values() + [
                    nested(8), R, book, ("come", "ann", "ab"), ("come", "ann", "d"), EqualToAll(),
                    (EqualToAll(), "ann", "a"), ("come", "ann", EqualToAll()), (EqualToAll(), "cyd"),
                    ("go", EqualToAll())]:
                self.assertEqual(self.raised(Broken, book.late, at, value).at, at)
            self.assertEqual(state(book), before)
            self.assertEqual(what_again_does(book), [("come", "dan", "c")])

    def test_places_that_are_none(self):
        book = filled(("come", "ann", "a"), ("come", "bob", "a"))
        before = state(book)
        for at in [-1, 3, 10 ** 39, -(10 ** 39)]:
            self.assertEqual(self.raised(Wrong, book.late, at, ("come", "dan", "a")).place, 0)
            self.assertEqual(self.raised(Wrong, book.late, at, None).place, 0)
        for at in odd_values() + [nested(8), "0", (0,), True, False]:
            if at.__class__ is not int:
                self.assertEqual(self.raised(Wrong, book.late, at, ("come", "dan", "a")).place, 0)
                self.assertEqual(self.raised(Wrong, book.cut, at).place, 0)
        self.assertEqual(state(book), before)

    def test_names_that_come_later_in_the_log(self):
        book = filled(("come", "ann", "a"), ("come", "bob", "a"), ("come", "cyd", "a"))
        before = state(book)
        for at, name, index in ((0, "ann", 1), (0, "bob", 2), (0, "cyd", 3), (1, "bob", 2), (1, "cyd", 3),
                                (2, "cyd", 3)):
            self.assertEqual(self.raised(Broken, book.late, at, ("come", name, "a")).at, index)
        for at, name in ((1, "ann"), (2, "ann"), (2, "bob"), (3, "ann"), (3, "cyd")):
            self.assertEqual(self.raised(Broken, book.late, at, ("come", name, "a")).at, at)
        self.assertEqual(state(book), before)

    def test_who_no_longer_waits_when_it_should_go(self):
        deeds = [("come", "ann", "a"), ("come", "bob", "a"), ("go", "ann"), ("go", "bob")]
        book = filled(*deeds)
        before = state(book)
        self.assertEqual(self.raised(Broken, book.late, 1, ("come", "dan", "b")).at, 3)
        self.assertEqual(self.raised(Broken, book.late, 2, ("go", "ann")).at, 3)
        self.assertEqual(self.raised(Broken, book.late, 2, ("go", "bob")).at, 4)
        self.assertEqual(self.raised(Broken, book.late, 3, ("come", "dan", "b")).at, 4)
        self.assertEqual(self.raised(Broken, book.late, 0, ("go", "ann")).at, 0)
        self.assertEqual(self.raised(Broken, book.late, 4, ("go", "ann")).at, 4)
        self.assertEqual(state(book), before)
        self.assertEqual(book.late(4, ("come", "dan", "b")), ("more", "dan"))

    def test_the_first_one_that_fails(self):
        # Both ann and bob come later; and ann could not go.
        book = filled(("come", "ann", "a"), ("come", "bob", "a"), ("go", "bob"), ("go", "ann"))
        self.assertEqual(self.raised(Broken, book.late, 0, ("come", "ann", "x")).at, 0)
        self.assertEqual(self.raised(Broken, book.late, 0, ("come", "bob", "b")).at, 2)
        self.assertEqual(self.raised(Broken, book.late, 1, ("come", "cyd", "b")).at, 4)


class Cut(Keeping, unittest.TestCase):
    def test_the_word_and_the_name(self):
        deeds = [("come", "ann", "a"), ("come", "bob", "c"), ("come", "cyd", "b")]
        self.assertEqual(filled(*deeds).cut(0), ("fewer", "bob"))
        self.assertEqual(filled(*deeds).cut(1), ("fewer", "bob"))
        self.assertEqual(filled(*deeds).cut(2), ("more", "ann"))
        self.assertEqual(filled(*deeds[:1]).cut(0), ("fewer", "ann"))
        book = filled(("come", "ann", "a"), ("go", "ann"), ("come", "bob", "b"))
        self.assertEqual(book.cut(1), ("fewer", "bob"))
        self.assertEqual(book.pairs(), [("ann", "bob")])
        book = filled(("come", "ann", "a"), ("go", "ann"))
        self.assertEqual((book.cut(1), book.line()), (("more", "ann"), [("ann", "a")]))

    def test_each_deed_as_if_it_had_not_been(self):
        chance = random.Random(115)
        for kinds, pairs in model.small_relations()[::3] + [(KINDS, PAIRS)] * 5:
            suits = Suits(kinds, pairs)
            deeds = [("come", name, chance.choice(kinds)) for name in NAMES]
            for at in range(len(deeds)):
                book = filled(*deeds, suits=suits)
                before = {name for name, _ in book.line()}
                word, name = book.cut(at)
                now = {name for name, _ in book.line()}
                self.assertEqual(state(book), state(filled(*deeds[:at], *deeds[at + 1:], suits=suits)))
                self.assertEqual((now - before, before - now), ({name}, set()) if word == "more" else (set(), {name}))

    def test_places_that_are_none(self):
        book = filled(("come", "ann", "a"), ("come", "bob", "a"))
        for at in (-1, 2, 3, 10 ** 39, -(10 ** 39)):
            self.assertEqual(self.raised(Wrong, book.cut, at).place, 0)
        self.assertEqual(self.raised(Wrong, Book(R).cut, 0).place, 0)
        self.assertEqual(len(book), 2)

    def test_who_then_cannot_go(self):
        deeds = [("come", "ann", "a"), ("come", "cyd", "c"), ("come", "bob", "b"), ("go", "cyd")]
        book = filled(*deeds)
        book.come("dan", "a")
        book.back()
        before = state(book)
        # Without ann, bob leaves with cyd; without the newcomer cyd there is nobody to go.
        self.assertEqual(self.raised(Broken, book.cut, 0).at, 2)
        self.assertEqual(self.raised(Broken, book.cut, 1).at, 2)
        self.assertEqual(state(book), before)
        self.assertEqual(what_again_does(book), [("come", "dan", "a")])
        self.assertEqual(book.cut(2), ("more", "ann"))


class BackAndAgain(Keeping, unittest.TestCase):
    def test_as_often_as_back(self):
        deeds = [("come", "ann", "a"), ("come", "bob", "b"), ("come", "cyd", "c"), ("go", "cyd")]
        book = filled(*deeds)
        whole = state(book)
        self.assertEqual([book.back() for _ in deeds], deeds[::-1])
        self.assertEqual(state(book), state(Book(R)))
        self.raised(Nothing, book.back)
        self.assertEqual([book.again() for _ in deeds], deeds)
        self.assertEqual(state(book), whole)
        self.raised(Nothing, book.again)

    def test_each_step_back(self):
        chance = random.Random(116)
        for kinds, pairs in model.small_relations()[::4]:
            suits = Suits(kinds, pairs)
            deeds = [("come", name, chance.choice(kinds)) for name in NAMES]
            book = filled(*deeds, suits=suits)
            for many in range(len(deeds) - 1, -1, -1):
                self.assertEqual(book.back(), deeds[many])
                self.assertEqual(state(book), state(filled(*deeds[:many], suits=suits)))

    def test_nothing(self):
        book = Book(R)
        self.raised(Nothing, book.back)
        self.raised(Nothing, book.again)
        book.come("ann", "a")
        self.raised(Nothing, book.again)
        self.assertEqual(book.line(), [("ann", "a")])

    def test_after_any_other_change(self):
        deeds = [("come", "ann", "a"), ("come", "bob", "a"), ("come", "cyd", "c"), ("come", "dan", "b")]
        for change in (lambda book: book.come("eve", "a"), lambda book: book.go("ann"),
                       lambda book: book.late(0, ("come", "eve", "a")), lambda book: book.cut(0),
                       lambda book: book.late(2, ("go", "bob"))):
            book = filled(*deeds)
            book.back()
            book.back()
            change(book)
            self.raised(Nothing, book.again)
            # What is taken out from now on can be done again.
            last = book.back()
            self.assertEqual(book.again(), last)
            self.raised(Nothing, book.again)

    def test_after_errors_and_questions_it_is_still_there(self):
        book = filled(("come", "ann", "a"), ("come", "bob", "a"), ("go", "ann"), ("come", "cyd", "c"))
        book.back()
        before = state(book)
        for call in (lambda: book.come("ann", "a"), lambda: book.come("Ann", "a"), lambda: book.come("eve", "x"),
                     lambda: book.go("ann"), lambda: book.go(None), lambda: book.late(-1, ("come", "eve", "a")),
                     lambda: book.late(0, ("come", "bob", "a")), lambda: book.late(0, None), lambda: book.cut(3),
                     lambda: book.cut(0), lambda: book.partner("eve"), lambda: book.late(1, ("come", "eve", "b"))):
            self.assertNotEqual(answer(call)[0], "value")
            self.assertEqual(state(book), before)
        for question in (book.line, book.pairs, book.log, book.suits, book.copied, lambda: book.partner("ann"),
                         lambda: book == Book(R), lambda: len(book), lambda: book.waiting):
            question()
        self.assertEqual(state(book), before)
        self.assertEqual(book.again(), ("come", "cyd", "c"))

    def test_back_after_again(self):
        book = filled(("come", "ann", "a"), ("come", "bob", "c"), ("come", "cyd", "b"))
        book.back()
        book.back()
        self.assertEqual([book.again(), book.back(), book.again(), book.again()],
                         [("come", "bob", "c"), ("come", "bob", "c"), ("come", "bob", "c"), ("come", "cyd", "b")])
        self.raised(Nothing, book.again)

    def test_again_does_what_was_done_and_changes_partners(self):
        book = filled(("come", "ann", "a"), ("come", "bob", "b"))
        self.assertEqual(book.back(), ("come", "bob", "b"))
        self.assertEqual((book.partner("ann"), answer(book.partner, "bob")[0]), (None, "NotWaiting"))
        book.again()
        self.assertEqual((book.partner("ann"), book.partner("bob"), book.pairs()), ("bob", "ann", [("ann", "bob")]))


class Queries(Keeping, unittest.TestCase):
    def test_partner(self):
        book = filled(("come", "ann", "a"), ("come", "bob", "b"), ("come", "cyd", "a"), ("come", "dan", "c"),
                      ("go", "dan"))
        self.assertEqual([book.partner(name) for name in ("ann", "bob", "cyd", "dan")], ["bob", "ann", None, None])
        for name in ("eve", "a", "abcdefgh"):
            self.assertEqual(self.raised(NotWaiting, book.partner, name).name, name)

    def test_pairs_in_the_order_in_which_they_left(self):
        book = filled(("come", "ann", "a"), ("come", "bob", "a"), ("come", "cyd", "c"), ("come", "dan", "c"),
                      ("come", "eve", "b"), ("come", "fay", "b"))
        self.assertEqual(book.pairs(), [("cyd", "dan"), ("ann", "eve"), ("bob", "fay")])

    def test_waiting_is_a_property(self):
        self.assertIsInstance(vars(Book)["waiting"], property)
        self.assertEqual(filled(("come", "ann", "a"), ("come", "bob", "a")).waiting, 2)

    def test_equal(self):
        deeds = [("come", "ann", "a"), ("come", "bob", "c")]
        self.assert_truth(filled(*deeds) == filled(*deeds), True)
        self.assert_truth(filled(*deeds) != filled(*deeds), False)
        self.assert_truth(filled(*deeds) == filled(*deeds[:1]), False)
        self.assert_truth(filled(*deeds) == filled(*deeds[::-1]), False)
        self.assert_truth(filled(*deeds) == filled(*deeds, suits=Suits(KINDS[::-1], PAIRS[::-1])), True)
        self.assert_truth(filled(*deeds) == filled(*deeds, suits=Suits(KINDS, PAIRS[:2])), False)
        self.assert_truth(Book(R) == Book(Suits(KINDS, [])), False)

    def test_equal_whatever_the_way(self):
        book = filled(("come", "ann", "a"), ("come", "bob", "c"))
        book.back()
        self.assert_truth(book == filled(("come", "ann", "a")), True)
        other = filled(("come", "bob", "c"))
        other.late(0, ("come", "ann", "a"))
        book.again()
        self.assert_truth(book == other, True)

    def test_equal_to_nothing_else(self):
        book = filled(("come", "ann", "a"))
        self.assert_truth(book.__eq__(EqualToAll()), False)
        for value in odd_values() + [R, book.log(), repr(book), (R, book.log()), Book, ("come", "ann", "a")]:
            self.assert_truth(book == value, False)
            self.assert_truth(value == book, False)
            self.assert_truth(book != value, True)

    def test_the_relation(self):
        suits = Suits(KINDS, PAIRS)
        self.assertEqual(Book(suits).suits(), suits)
        self.assertEqual(Book(suits).suits().pairs(), PAIRS)


class Copies(Keeping, unittest.TestCase):
    def test_two_books_that_go_on_independently(self):
        book = filled(("come", "ann", "a"), ("come", "bob", "c"), ("come", "cyd", "a"))
        book.back()
        twin = book.copied()
        self.assertIsNot(twin, book)
        self.assertIs(twin.__class__, Book)
        self.assert_truth(twin == book, True)
        before = state(book)
        self.assertEqual(state(twin), before)
        self.assertEqual(twin.come("dan", "b"), "ann")
        self.assertEqual(twin.late(0, ("come", "eve", "c")), ("fewer", "bob"))
        self.assertEqual(state(book), before)
        self.assertEqual(book.again(), ("come", "cyd", "a"))
        self.raised(Nothing, twin.again)
        told = state(twin)
        book.cut(0)
        book.go("bob")
        self.assertEqual(state(twin), told)

    def test_the_same_deeds_for_again(self):
        book = filled(("come", "ann", "a"), ("come", "bob", "c"), ("come", "cyd", "a"))
        book.back()
        book.back()
        twin = book.copied()
        self.assertEqual([twin.again(), twin.again()], [("come", "bob", "c"), ("come", "cyd", "a")])
        self.assertEqual([book.again(), book.again()], [("come", "bob", "c"), ("come", "cyd", "a")])
        self.assertEqual(state(twin), state(book))

    def test_copies_of_copies_and_of_the_empty_book(self):
        book = Book(R)
        twin = book.copied().copied()
        twin.come("ann", "a")
        self.assertEqual((len(book), len(twin)), (0, 1))
        self.raised(Nothing, book.copied().again)

    def test_two_books_side_by_side(self):
        chance = random.Random(117)
        one, other = Book(R), Book(Suits(KINDS, PAIRS[:1]))
        deeds = [[("come", name, chance.choice(KINDS)) for name in NAMES] for _ in range(2)]
        for first, second in zip(*deeds):
            one.come(*first[1:])
            other.come(*second[1:])
        self.assertEqual(state(one), state(filled(*deeds[0])))
        self.assertEqual(state(other), state(filled(*deeds[1], suits=Suits(KINDS, PAIRS[:1]))))
        self.assertNotEqual(one.log(), other.log())

    def test_told_the_same_they_answer_alike(self):
        chance = random.Random(118)
        maker = AgainstTheWords()
        books = [Book(R), Book(Suits(KINDS[::-1], PAIRS[::-1])), Book(R)]
        for _ in range(150):
            word, arguments = maker.random_call(chance, KINDS, len(books[0]))
            answers = [answer(getattr(book, word), *arguments) for book in books]
            self.assertEqual(answers[1:], answers[:1] * 2)
            self.assertEqual({state(book) for book in books}, {state(books[0])})
            self.assertEqual(what_again_does(books[1]), what_again_does(books[0]))


class Lists(Keeping, unittest.TestCase):
    def test_what_is_returned_may_be_changed(self):
        book = filled(("come", "ann", "a"), ("come", "bob", "c"), ("come", "cyd", "b"), ("come", "dan", "a"))
        book.back()
        before = state(book)
        for query in (book.line, book.pairs, book.log):
            self.assert_keeps(query)
            self.assertEqual(state(book), before)
        self.assertEqual(book.again(), ("come", "dan", "a"))

    def test_what_was_returned_stays_when_the_book_goes_on(self):
        book = filled(("come", "ann", "a"), ("come", "bob", "c"))
        kept = [book.line(), book.pairs(), book.log()]
        told = repr(kept)
        book.come("cyd", "b")
        book.go("bob")
        book.back()
        self.assertEqual(repr(kept), told)

    def test_a_deed_in_a_list_is_none_even_if_its_items_are_right(self):
        book = filled(("come", "ann", "a"))
        deed = ["come", "bob", "a"]
        self.assertEqual(self.raised(Broken, book.late, 1, deed).at, 1)
        self.assertEqual((deed, len(book)), (["come", "bob", "a"], 1))


if __name__ == "__main__":
    unittest.main()
