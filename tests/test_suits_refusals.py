"""[22], [4]: what Suits accepts, and the errors that it raises for everything else."""

import random
import unittest

from suitedpairs.errors import BadPair, Wrong
from suitedpairs.suits import Suits
from tests import model
from tests.values import Keeping, nested, odd_values

EIGHT = model.LETTERS
ALL_PAIRS = model.possible_pairs(EIGHT)


class Accepted(unittest.TestCase):
    def test_one_to_eight_kinds(self):
        for many in range(1, 9):
            self.assertEqual(len(Suits(EIGHT[:many], [])), many)

    def test_no_pair_up_to_all_pairs(self):
        for many in range(37):
            self.assertEqual(Suits(EIGHT, ALL_PAIRS[:many]).many, many)

    def test_any_order(self):
        chance = random.Random(1)
        for _ in range(20):
            kinds, pairs = model.mixed(chance, EIGHT, ALL_PAIRS)
            self.assertEqual(Suits(kinds, pairs).pairs(), ALL_PAIRS)

    def test_long_kinds(self):
        suits = Suits(["abcdefgh", "z", "ab", "aa"], [("z", "abcdefgh"), ("ab", "ab")])
        self.assertEqual(suits.kinds(), ["aa", "ab", "abcdefgh", "z"])
        self.assertEqual(suits.pairs(), [("ab", "ab"), ("abcdefgh", "z")])


class Refusing(Keeping):
    """The checks of the errors of Suits: mixed into a TestCase."""

    def assert_wrong(self, place, kinds, pairs):
        error = self.raised(Wrong, Suits, kinds, pairs)
        self.assertEqual(repr(error.place), repr(place))

    def assert_bad(self, at, kinds, pairs):
        error = self.raised(BadPair, Suits, kinds, pairs)
        self.assertEqual(repr(error.at), repr(at))


class WrongKinds(Refusing, unittest.TestCase):
    def test_other_values(self):
        for kinds in odd_values():
            self.assert_wrong(0, kinds, [])

    def test_too_few_and_too_many(self):
        self.assert_wrong(0, [], [])
        self.assert_wrong(0, [*EIGHT, "i"], [])
        self.assert_wrong(0, [*EIGHT, "a"], [])
        self.assert_wrong(0, [f"{one}{other}" for one in EIGHT for other in EIGHT], [])
        self.assert_wrong(0, ["a"] * 24000, [])

    def test_a_kind_twice(self):
        for kinds in (["a", "a"], ["a", "b", "a"], ["b", "a", "a"], ["a", "b", "c", "d", "e", "f", "g", "a"],
                      ["ab", "b", "ab"], ["a"] * 8):
            self.assert_wrong(0, kinds, [])

    def test_a_value_that_is_no_kind(self):
        for value in odd_values():
            for kinds in ([value], ["a", value], [value, "a"], ["a", value, "b"], ["a", "b", value]):
                self.assert_wrong(0, kinds, [])

    def test_a_value_that_is_no_kind_twice(self):
        for value in odd_values():
            self.assert_wrong(0, [value, value], [])

    def test_other_containers_of_kinds(self):
        for kinds in (("a", "b"), "ab", "a", {"a", "b"}, {"a": 1, "b": 2}, frozenset("ab"), b"ab", [["a", "b"]],
                      [("a", "b")], iter(["a"])):
            self.assert_wrong(0, kinds, [])

    def test_nested(self):
        for depth in range(2, 9):
            self.assert_wrong(0, nested(depth), [])
            self.assert_wrong(0, ["a", nested(depth - 1)], [])

    def test_the_kinds_are_checked_first(self):
        for pairs in (None, [("a", "a"), ("a", "a")], [None], [None] * 37, (), [("x", "y")]):
            for kinds in (None, [], ["a", "a"], [*EIGHT, "i"], ("a",), ["A"], [None]):
                self.assert_wrong(0, kinds, pairs)


class WrongPairs(Refusing, unittest.TestCase):
    def test_other_values(self):
        for pairs in odd_values():
            if not isinstance(pairs, list):
                self.assert_wrong(1, ["a", "b"], pairs)

    def test_too_many(self):
        self.assert_wrong(1, EIGHT, [*ALL_PAIRS, ("a", "a")])
        self.assert_wrong(1, EIGHT, [*ALL_PAIRS, None])
        self.assert_wrong(1, ["a"], [("a", "a")] * 37)
        self.assert_wrong(1, ["a"], [None] * 37)
        self.assert_wrong(1, ["a", "b"], [("a", "b"), ("b", "a")] + [("a", "a")] * 35)
        self.assert_wrong(1, ["a"], [("a", "a")] * 8000)
        self.assert_wrong(1, ["a"], [None] * 24000)

    def test_nested(self):
        for depth in range(1, 8):
            self.assert_wrong(1, ["a"], (nested(depth),))
            self.assert_wrong(1, ["a"], {"a": nested(depth)})

    def test_other_containers_of_pairs(self):
        for pairs in ((), (("a", "b"),), {("a", "b")}, {("a", "b"): 1}, {}, set(), "", "ab", "a-b", iter([])):
            self.assert_wrong(1, ["a", "b"], pairs)


class BadPairs(Refusing, unittest.TestCase):
    def test_items_that_are_no_pairs(self):
        good = [("a", "b"), ("b", "b"), ("c", "a")]
        wrong = odd_values() + [["a", "b"], "ab", {"a", "b"}, {"a": "b", "b": "a"}, frozenset("ab"), b"ab", "a b",
                                ("a",), ("a", "b", "c"), ("a", "b", "b"), (("a", "b"), ("a", "b")), [("a", "b")]]
        for value in wrong:
            for at in range(4):
                self.assert_bad(at, ["a", "b", "c"], good[:at] + [value] + good[at:])

    def test_values_that_are_no_kinds(self):
        for value in odd_values():
            for pair in ((value, "a"), ("a", value), (value, value)):
                self.assert_bad(0, ["a", "b"], [pair])
                self.assert_bad(1, ["a", "b"], [("a", "b"), pair, ("b", "b")])

    def test_kinds_that_are_not_of_the_relation(self):
        for pair in (("a", "x"), ("x", "a"), ("x", "x"), ("x", "y"), ("aa", "a"), ("a", "ab"), ("a", "")):
            self.assert_bad(0, ["a"], [pair])
            self.assert_bad(2, ["b", "a"], [("a", "a"), ("a", "b"), pair])

    def test_a_pair_twice(self):
        self.assert_bad(1, ["a", "b"], [("a", "b"), ("a", "b")])
        self.assert_bad(1, ["a", "b"], [("a", "a"), ("a", "a")])
        self.assert_bad(2, ["a", "b"], [("a", "b"), ("a", "a"), ("a", "b")])
        self.assert_bad(3, ["a", "b", "c"], [("c", "b"), ("a", "b"), ("c", "c"), ("a", "b")])

    def test_a_pair_turned_about(self):
        self.assert_bad(1, ["a", "b"], [("a", "b"), ("b", "a")])
        self.assert_bad(1, ["a", "b"], [("b", "a"), ("a", "b")])
        self.assert_bad(1, ["b", "a"], [("b", "a"), ("a", "b")])
        self.assert_bad(2, ["a", "b", "c"], [("b", "c"), ("a", "a"), ("c", "b")])

    def test_each_pair_repeated_later(self):
        for at, (one, other) in enumerate(ALL_PAIRS[:35]):
            self.assert_bad(35, EIGHT, ALL_PAIRS[:35] + [(other, one)])
            self.assert_bad(at + 1, EIGHT, ALL_PAIRS[:at + 1] + [(other, one)] + ALL_PAIRS[at + 1:35])

    def test_the_first_one_counts(self):
        self.assert_bad(1, ["a", "b"], [("a", "b"), ("b", "a"), None])
        self.assert_bad(1, ["a", "b"], [("a", "b"), None, ("b", "a")])
        self.assert_bad(0, ["a", "b"], [("a", "x"), ("a", "a"), ("a", "a")])
        self.assert_bad(0, ["a"], [None] * 36)
        self.assert_bad(1, ["a"], [("a", "a")] * 36)
        self.assert_bad(2, ["a", "b"], [("a", "a"), ("a", "b"), ["a", "b"], ("a", "x"), ("a", "b")])

    def test_the_last_of_36(self):
        self.assert_bad(35, EIGHT, ALL_PAIRS[:35] + [None])
        self.assert_bad(35, EIGHT, ALL_PAIRS[:35] + [("h", "i")])
        self.assert_bad(35, EIGHT, ALL_PAIRS[:35] + [["h", "h"]])

    def test_nested_and_large(self):
        for depth in range(1, 8):
            self.assert_bad(0, ["a"], [nested(depth)])
        for depth in range(1, 7):
            self.assert_bad(1, ["a"], [("a", "a"), ("a", nested(depth))])
        self.assert_bad(0, ["a"], [("a",) * 24000])
        self.assert_bad(0, ["a"], [("a", ["a"] * 20000)])


class AfterAnError(unittest.TestCase):
    def test_what_was_passed_stays(self):
        for kinds, pairs in ((["b", "a", "a"], [("b", "a")]), (["b", "a"], [("b", "a")] * 37),
                             (["b", "a"], [("b", "b"), ("b", "a"), ("a", "b")]), (["b", "a"], [("b", "a"), ["b"]])):
            before = repr((kinds, pairs))
            with self.assertRaises(ValueError):
                Suits(kinds, pairs)
            self.assertEqual(repr((kinds, pairs)), before)

    def test_the_next_relation_is_as_described(self):
        with self.assertRaises(BadPair):
            Suits(["a", "b"], [("a", "b"), ("b", "b"), None])
        self.assertEqual(Suits(["a", "b"], []).pairs(), [])
        self.assertEqual(Suits(["a", "b"], [("a", "b"), ("b", "b")]).pairs(), [("a", "b"), ("b", "b")])


if __name__ == "__main__":
    unittest.main()
