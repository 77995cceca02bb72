"""[102]: relations, rows and deeds as texts."""

import random
import unittest

from suitedpairs.errors import NoText
from suitedpairs.notation import read_deeds, read_row, read_suits, show_deeds, show_row, show_suits
from suitedpairs.suits import Suits
from tests import model
from tests.values import Keeping, all_lists_up_to, nested, odd_values

EIGHT = ["a", "b", "c", "d", "e", "f", "g", "h"]
LONG = ["ab", "abcdefgh", "b", "zzzzzzzz"]


def relations():
    """Relations of short and long names of kinds."""
    found = model.small_relations() + model.large_relations()
    for pairs in model.subsets(model.possible_pairs(LONG))[::37]:
        found.append((LONG, pairs))
    return found


def words_changed(text):
    """Texts that differ from a text by one blank, line feed or word: none of them writes anything."""
    words = text.split(" ")
    return [" " + text, text + " ", text + "\n", "\n" + text, text + "\n\n", text.replace(" ", "  "),
            text.replace(" ", "\n"), text.replace(" ", "\t"), " ".join(words + [""]), text + " A", text + " a1",
            text + " -a", text + " a-", text + " abcdefghi", text + " /", text.upper(), text + "\r", text + ".",
            ",".join(words), text + " \u00e4", text + " \u0061\u0301", "\ufeff" + text, text + " \uff41"]


class Refusing(Keeping):
    """What all texts have in common: mixed into a TestCase."""

    def assert_none(self, read, value):
        """No text, and the error has no fields."""
        self.assertEqual(vars(self.raised(NoText, read, value)), {})


class AnyValue(Refusing, unittest.TestCase):
    def test_values_that_are_no_strings(self):
        values = odd_values() + [nested(8), ["a"], [("go", "ann")], ("a", "a-a"), Suits(["a"], []), b"a", b"-", b"",
                                 ["a", "b"], {"a": 1}, Suits, None, 0, True, str]
        for read in (read_suits, read_row, read_deeds):
            for value in values:
                if not isinstance(value, str):
                    self.assert_none(read, value)

    def test_strings_of_all_sorts(self):
        # Of the odd values, one writes two kinds, which are a relation or a row, and the empty one writes no deeds.
        texts = [value for value in odd_values() if isinstance(value, str)]
        self.assertTrue({"a b", ""} < set(texts))
        for text in texts:
            for read in (read_suits, read_row, read_deeds):
                if text != ("" if read is read_deeds else "a b"):
                    self.assert_none(read, text)

    def test_long_texts(self):
        for text in ("a " * 10000, "a-b " * 5000, " " * 20000, "\n" * 20000, "-" * 20000, "come a a\n" * 2000):
            for read in (read_suits, read_row, read_deeds):
                self.assert_none(read, text)


class Relations(Refusing, unittest.TestCase):
    def test_there_and_back(self):
        for kinds, pairs in relations():
            suits = Suits(kinds, pairs)
            text = show_suits(suits)
            words = sorted(kinds) + [f"{min(pair)}-{max(pair)}" for pair in sorted(tuple(sorted(two)) for two in pairs)]
            self.assertEqual(text, " ".join(words))
            found = read_suits(text)
            self.assertIs(found.__class__, Suits)
            self.assertEqual(found, suits)
            self.assertEqual(show_suits(found), text)

    def test_as_they_are_written(self):
        self.assertEqual(show_suits(Suits(["b", "a"], [("b", "b"), ("b", "a")])), "a b a-b b-b")
        self.assertEqual(show_suits(Suits(["x"], [])), "x")
        self.assertEqual(show_suits(Suits(["x"], [("x", "x")])), "x x-x")
        self.assertEqual(show_suits(Suits(["b", "ab"], [("b", "ab")])), "ab b ab-b")
        self.assertEqual(read_suits("ab b ab-b"), Suits(["b", "ab"], [("b", "ab")]))

    def test_changed_texts(self):
        for kinds, pairs in relations()[::3]:
            text = show_suits(Suits(kinds, pairs))
            for other in words_changed(text):
                if other != text:
                    self.assert_none(read_suits, other)

    def test_words_in_any_other_order(self):
        chance = random.Random(121)
        for kinds, pairs in relations()[::2]:
            words = show_suits(Suits(kinds, pairs)).split(" ")
            for _ in range(3):
                other = chance.sample(words, len(words))
                if other != words:
                    self.assert_none(read_suits, " ".join(other))

    def test_a_word_twice_or_one_left_out(self):
        for kinds, pairs in relations()[::3]:
            suits = Suits(kinds, pairs)
            words = show_suits(suits).split(" ")
            for at, word in enumerate(words):
                self.assert_none(read_suits, " ".join(words[:at] + [word] + words[at:]))
                self.assert_none(read_suits, " ".join(words + [word]))
                fewer = " ".join(words[:at] + words[at + 1:])
                needed = at < len(kinds) and (len(kinds) == 1 or any(word in pair for pair in suits.pairs()))
                if needed:
                    self.assert_none(read_suits, fewer)
                else:
                    self.assertEqual(show_suits(read_suits(fewer)), fewer)

    def test_pairs_turned_about(self):
        for text in ("a b b-a", "a b a-b b-a", "a b b-a b-b", "ab b b-ab", "a b c a-b c-b", "a b a-a b-a"):
            self.assert_none(read_suits, text)

    def test_texts_that_write_none(self):
        for text in ("", " ", "-", "a-a", "a-b", "a a-b", "a b a-c", "a b a-b-b", "a b a--b", "a b -", "a b a-",
                     "a b -b", "a b a-b a-b", "b a", "b a a-b", "a a-a b", "a a-b b", "a a", "a b a", "A", "a B",
                     "a A-a", "a1",
                     "abcdefghi", "abcdefghi abcdefghi-abcdefghi", "a b b-b a-b", "a b a-b a-a", "a\nb", "a\n", "\na",
                     "a  b", " a", "a ", "a b  a-b", "a,b", "a b a:b", "come ann a", "a b a-b\n", "a/b", "a-b a b"):
            self.assert_none(read_suits, text)

    def test_nine_kinds(self):
        self.assertEqual(len(read_suits(" ".join(EIGHT))), 8)
        self.assert_none(read_suits, " ".join(EIGHT + ["i"]))
        self.assert_none(read_suits, " ".join(EIGHT + ["i", "a-b"]))

    def test_36_and_37_pairs(self):
        words = EIGHT + [f"{one}-{other}" for one, other in model.possible_pairs(EIGHT)]
        self.assertEqual(read_suits(" ".join(words)).many, 36)
        self.assert_none(read_suits, " ".join(words + ["h-h"]))
        self.assert_none(read_suits, " ".join(words + ["h-i"]))
        self.assert_none(read_suits, " ".join(EIGHT + ["a-a"] + words[8:]))


class Rows(Refusing, unittest.TestCase):
    def test_there_and_back(self):
        chance = random.Random(122)
        rows = all_lists_up_to(["a", "b", "come"], 3) + [["a"] * 200, ["abcdefgh"] * 200, LONG, EIGHT + ["i", "j"]]
        for row in rows + [model.random_row(chance, LONG, many) for many in (5, 40, 199, 200)]:
            text = show_row(row)
            self.assertEqual(text, " ".join(row) if row else "-")
            self.assertEqual(read_row(text), row)
            self.assertIs(read_row(text).__class__, list)

    def test_lines_of_more_persons_than_can_be_passed_in(self):
        self.assertEqual(show_row(["ab"] * 500), ("ab " * 500)[:-1])

    def test_201_kinds(self):
        self.assert_none(read_row, " ".join(["a"] * 201))
        self.assert_none(read_row, " ".join(["a"] * 400))

    def test_changed_texts(self):
        for row in (["a"], ["a", "b"], LONG, ["a"] * 100):
            for other in words_changed(show_row(row)):
                if other != show_row(row):
                    self.assert_none(read_row, other)

    def test_texts_that_write_none(self):
        for text in ("", " ", "--", "- ", " -", "-\n", "- -", "a -", "- a", "a-b", "a - b", "a\nb", "a\n", "a  b", "a ",
                     " a", "A", "a B", "abcdefghi", "a1", "1", "a,b", "a/b", "a / b", "_", "a\tb", "a b\n"):
            self.assert_none(read_row, text)


class Deeds(Refusing, unittest.TestCase):
    def test_there_and_back(self):
        chance = random.Random(123)
        deeds = [("come", "ann", "a"), ("go", "ann"), ("come", "come", "go"), ("go", "go"), ("go", "come"),
                 ("come", "abcdefgh", "zzzzzzzz"), ("come", "ann", "b")]
        lists = all_lists_up_to(deeds, 2) + [chance.choices(deeds, k=many) for many in (10, 199, 200)]
        for told in lists:
            text = show_deeds(told)
            self.assertEqual(text, "\n".join(" ".join(deed) for deed in told))
            self.assertEqual(read_deeds(text), told)
            self.assertEqual([deed.__class__ for deed in read_deeds(text)], [tuple] * len(told))

    def test_no_deeds(self):
        self.assertEqual((show_deeds([]), read_deeds("")), ("", []))

    def test_as_they_are_written(self):
        self.assertEqual(show_deeds([("come", "ann", "a"), ("go", "ann")]), "come ann a\ngo ann")
        self.assertEqual(read_deeds("go ann"), [("go", "ann")])

    def test_201_deeds(self):
        self.assertEqual(len(read_deeds("\n".join(["go ann"] * 200))), 200)
        self.assert_none(read_deeds, "\n".join(["go ann"] * 201))
        self.assert_none(read_deeds, "\n".join(["go ann"] * 200) + "\n")

    def test_changed_texts(self):
        for told in ([("come", "ann", "a")], [("go", "ann")], [("go", "ann"), ("come", "ann", "a"), ("go", "bob")]):
            text = show_deeds(told)
            for other in words_changed(text):
                if other != text:
                    self.assert_none(read_deeds, other)

    def test_texts_that_write_none(self):
        for text in (" ", "\n", "-", "come", "go", "come ann", "go ann a", "come ann a a", "come Ann a", "come ann A",
                     "come ann -", "go -", "go an-n", "came ann a", "Come ann a", "GO ann", "come  ann a",
                     "come ann  a", " go ann", "go ann ", "go ann\n", "\ngo ann", "go ann\n\ngo ann", "go ann; go ann",
                     "go ann go bob", "come abcdefghi a", "come ann abcdefghi", "go abcdefghi", "come ann\na",
                     "go\nann", "go ann\r\ngo bob", "ann a", "go ann\ngone ann", "('go', 'ann')", "come ann a\n-",
                     "back", "late 0 go ann", "cut 0"):
            self.assert_none(read_deeds, text)


class Lists(Keeping, unittest.TestCase):
    def test_what_is_passed_and_what_is_returned(self):
        for row in ([], ["a"], LONG):
            self.assert_keeps(show_row, row)
            self.assert_keeps(read_row, show_row(row))
        for told in ([], [("go", "ann")], [("come", "ann", "a"), ("go", "ann")]):
            self.assert_keeps(show_deeds, told)
            self.assert_keeps(read_deeds, show_deeds(told))
        self.assert_keeps(show_suits, Suits(LONG, [("b", "ab")]))
        self.assert_keeps(read_suits, "ab b ab-b")

    def test_lists_that_are_changed_in_place(self):
        row, told = ["a", "b"], [("go", "ann")]
        self.assertEqual((show_row(row), show_deeds(told)), ("a b", "go ann"))
        row.pop()
        told.append(("come", "bob", "a"))
        self.assertEqual((show_row(row), show_deeds(told)), ("a", "go ann\ncome bob a"))
        row.pop()
        told.clear()
        self.assertEqual((show_row(row), show_deeds(told)), ("-", ""))


if __name__ == "__main__":
    unittest.main()
