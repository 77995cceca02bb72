"""[21], [2]: integers, kinds and lists of kinds."""

import unittest

from suitedpairs.kinds import are_kinds, is_integer, is_kind
from tests.values import Keeping, nested, odd_values

SIGNS = ["\n"] + [chr(number) for number in range(32, 127) if chr(number) != "%"]
SMALL = "abcdefghijklmnopqrstuvwxyz"


class Integers(Keeping, unittest.TestCase):
    def test_integers(self):
        for thing in (0, 1, -1, 2, 8, -200, 10 ** 18, 10 ** 40 - 1, -(10 ** 40 - 1)):
            self.assert_truth(is_integer(thing), True)

    def test_truths_are_none(self):
        self.assert_truth(is_integer(True), False)
        self.assert_truth(is_integer(False), False)

    def test_other_values_are_none(self):
        for thing in (None, "", "1", "a", b"1", [], [1], (1,), {}, {1: 1}, {1}, range(1), int, object(), [[1]]):
            self.assert_truth(is_integer(thing), False)
        for thing in odd_values():
            plain = isinstance(thing, int) and thing is not True and thing is not False
            self.assert_truth(is_integer(thing), plain)


class Kinds(Keeping, unittest.TestCase):
    def test_lengths(self):
        for length in range(12):
            self.assert_truth(is_kind("abcdefghijkl"[:length]), 1 <= length <= 8)
            self.assert_truth(is_kind("z" * length), 1 <= length <= 8)
        self.assert_truth(is_kind("a" * 20000), False)

    def test_signs(self):
        for sign in SIGNS:
            with self.subTest(sign):
                for word in (sign, sign + "a", "a" + sign, "ab" + sign + "yz", "abcdefg" + sign, sign + "tuvwxyz"):
                    self.assert_truth(is_kind(word), sign in SMALL)

    def test_every_letter(self):
        for letter in SMALL:
            self.assert_truth(is_kind(letter), True)
            self.assert_truth(is_kind(letter * 8), True)
            self.assert_truth(is_kind(letter.upper()), False)

    def test_other_values_are_none(self):
        for thing in odd_values():
            self.assert_truth(is_kind(thing), False)
        for thing in (["a"], ("a",), {"a"}, {"a": 1}, b"a", ["a", "b"], [["a"]]):
            self.assert_truth(is_kind(thing), False)


class ListsOfKinds(Keeping, unittest.TestCase):
    def test_lists_of_kinds(self):
        for thing in ([], ["a"], ["a", "a"], ["b", "a"], ["abcdefgh", "z"], ["a"] * 24999, ["a", "bc"] * 12000):
            self.assert_truth(are_kinds(thing), True)

    def test_one_wrong_item(self):
        for wrong in odd_values():
            for thing in ([wrong], [wrong, "a"], ["a", wrong], ["a", wrong, "b"]):
                self.assert_truth(are_kinds(thing), False)

    def test_a_late_wrong_item(self):
        self.assert_truth(are_kinds(["a"] * 24000 + ["A"]), False)
        self.assert_truth(are_kinds(["A"] + ["a"] * 24000), False)
        self.assert_truth(are_kinds(["a"] * 12000 + [None] + ["a"] * 12000), False)

    def test_nested(self):
        for thing in ([[]], [["a"]], [("a",)], ["a", ["a"]], nested(8), [{"a": "b"}], [{"a"}]):
            self.assert_truth(are_kinds(thing), False)

    def test_other_containers_are_none(self):
        for thing in ((), ("a",), ("a", "b"), "", "a", "ab", {}, {"a": 1}, set(), {"a"}, b"", b"a", None, True, 0, 1):
            self.assert_truth(are_kinds(thing), False)

    def test_odd_values(self):
        for thing in odd_values():
            if not (isinstance(thing, list) and all(isinstance(item, str) for item in thing)):
                self.assert_truth(are_kinds(thing), False)

    def test_what_is_asked_stays(self):
        for thing in (["b", "a"], ["a", ["b"]], [], nested(8)):
            for call in (is_integer, is_kind, are_kinds):
                self.assert_keeps(call, thing)


if __name__ == "__main__":
    unittest.main()
