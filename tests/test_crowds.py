"""[61], [9]: excess and surplus of calm sets, and crowds."""

import random
import unittest

from suitedpairs.crowds import crowd, excess, is_crowd, surplus
from suitedpairs.suits import Suits
from tests import model
from tests.values import Keeping, all_lists_up_to, nested, odd_values

R = Suits(["a", "b", "c"], [("a", "b"), ("b", "c"), ("c", "c")])
RELATIONS = model.small_relations() + model.large_relations()


def calm_sets(kinds, pairs):
    """All calm sets, in ascending order."""
    return sorted(one for one in model.subsets(sorted(kinds)) if model.is_calm(pairs, one))


def balance(kinds, pairs, persons, members):
    """The number of persons of the members' kinds, less that of persons of their mates."""
    mates = model.mates(kinds, pairs, members)
    return sum(1 for kind in persons if kind in members) - sum(1 for kind in persons if kind in mates)


def made_rows(seed, lengths=(1, 5, 12, 40)):
    """Relations with rows of these lengths."""
    chance = random.Random(seed)
    for kinds, pairs in RELATIONS:
        for many in lengths:
            yield kinds, pairs, Suits(kinds, pairs), model.random_row(chance, kinds, many)


class Numbers(unittest.TestCase):
    def test_excess(self):
        for kinds, pairs, suits, row in made_rows(51):
            for members in calm_sets(kinds, pairs):
                self.assertEqual(repr(excess(suits, row, members)), repr(balance(kinds, pairs, row, members)))

    def test_excess_of_all_short_rows(self):
        for kinds, pairs in model.small_relations():
            suits = Suits(kinds, pairs)
            for members in calm_sets(kinds, pairs):
                for row in all_lists_up_to(kinds, 3):
                    self.assertEqual(excess(suits, row, members), balance(kinds, pairs, row, members))

    def test_surplus(self):
        chance = random.Random(52)
        for kinds, pairs in RELATIONS:
            suits = Suits(kinds, pairs)
            for line in [[], *(model.random_line(chance, kinds, pairs, most) for most in (1, 10, 200))]:
                for members in calm_sets(kinds, pairs):
                    self.assertEqual(repr(surplus(suits, line, members)), repr(balance(kinds, pairs, line, members)))

    def test_the_empty_set(self):
        for kinds, pairs, suits, row in made_rows(53, (0, 20)):
            self.assertEqual(repr(excess(suits, row, [])), "0")
            self.assertEqual(repr(surplus(suits, model.after(pairs, [], row), [])), "0")

    def test_edges(self):
        self.assertEqual([excess(R, [], ["a"]), surplus(R, [], ["b"])], [0, 0])
        self.assertEqual([excess(R, ["b"] * 40, ["a"]), excess(R, ["a"] * 40, ["a"])], [-40, 40])
        self.assertEqual([excess(R, ["c"] * 40, ["a"]), excess(R, ["c"] * 40, ["b"])], [0, -40])
        self.assertEqual([excess(R, ["c", "a"] * 20, ["b"]), excess(R, ["a", "b"] * 20, ["b"])], [-40, 0])
        self.assertEqual([surplus(R, ["a"] * 200, ["a"]), surplus(R, ["a"] * 200, ["b"])], [200, -200])
        free = Suits(["a", "b"], [])
        self.assertEqual([excess(free, ["a", "b", "b"], ["a", "b"]), excess(free, ["a", "b", "b"], ["b"])], [3, 2])

    def test_a_mate_of_several_members_counts_once(self):
        suits = Suits(["a", "b", "c"], [("a", "c"), ("b", "c")])
        self.assertEqual(excess(suits, ["a", "b", "c", "c"], ["a", "b"]), 0)
        self.assertEqual(surplus(suits, ["c", "c"], ["a", "b"]), -2)


class Crowd(unittest.TestCase):
    def assert_greatest(self, kinds, pairs, suits, row):
        worths = [(balance(kinds, pairs, row, members), members) for members in calm_sets(kinds, pairs)]
        most = max(number for number, _ in worths)
        wanted = (most, [members for number, members in worths if number == most][0])
        self.assertEqual(repr(crowd(suits, row)), repr(wanted))

    def test_all_short_rows(self):
        for kinds, pairs in model.small_relations():
            suits = Suits(kinds, pairs)
            for row in all_lists_up_to(kinds, 3):
                self.assert_greatest(kinds, pairs, suits, row)

    def test_long_rows(self):
        for kinds, pairs, suits, row in made_rows(54):
            self.assert_greatest(kinds, pairs, suits, row)
            self.assert_greatest(kinds, pairs, suits, row[:1] * 40)

    def test_the_first_one_of_several(self):
        pairs = [("a", "d"), ("b", "d"), ("c", "d")]
        suits = Suits(["a", "b", "c", "d"], pairs)
        self.assertEqual(crowd(suits, ["c", "b", "c", "b"]), (4, ["a", "b", "c"]))
        self.assertEqual(crowd(Suits(["a", "b"], []), ["b"]), (1, ["a", "b"]))
        self.assertEqual(crowd(Suits(["a", "b", "c"], [("a", "c")]), ["b"]), (1, ["a", "b"]))
        self.assertEqual(crowd(Suits(["a", "b", "c"], [("b", "a")]), ["c", "c"]), (2, ["a", "c"]))
        self.assertEqual(crowd(Suits(["a", "b"], [("a", "a")]), ["b", "b"]), (2, ["b"]))

    def test_none_is_greater_than_that_of_the_empty_set(self):
        self.assertEqual(crowd(R, []), (0, []))
        self.assertEqual(crowd(R, ["a", "b"]), (0, []))
        self.assertEqual(crowd(Suits(["a"], [("a", "a")]), ["a"] * 40), (0, []))
        self.assertEqual(crowd(Suits(["a"], []), []), (0, []))
        self.assertEqual(crowd(Suits(["a"], []), ["a"] * 40), (40, ["a"]))


class IsCrowd(Keeping, unittest.TestCase):
    def test_all_lists_of_kinds(self):
        for kinds, pairs in model.small_relations():
            suits = Suits(kinds, pairs)
            calm = calm_sets(kinds, pairs)
            for row in all_lists_up_to(kinds, 2):
                for thing in all_lists_up_to(["a", "b", "c", "d"], 3):
                    wanted = thing in calm and balance(kinds, pairs, row, thing) > 0
                    self.assert_truth(is_crowd(suits, row, thing), wanted)

    def test_all_sets_of_large_relations(self):
        for kinds, pairs, suits, row in made_rows(55, (3, 40)):
            calm = calm_sets(kinds, pairs)
            for thing in model.subsets(sorted(kinds)):
                self.assert_truth(is_crowd(suits, row, thing), thing in calm and balance(kinds, pairs, row, thing) > 0)

    def test_what_crowd_finds(self):
        for kinds, pairs, suits, row in made_rows(56):
            number, members = crowd(suits, row)
            self.assert_truth(is_crowd(suits, row, members), number > 0)

    def test_sets_that_are_not_calm(self):
        row = ["a", "b", "c", "c"]
        for thing in (["c"], ["a", "b"], ["b", "c"], ["a", "c"], ["a", "b", "c"]):
            self.assert_truth(is_crowd(R, row, thing), False)
            self.assert_truth(is_crowd(R, ["c"] * 3, thing), False)
            self.assert_truth(is_crowd(R, ["a"] * 3, thing), False)

    def test_not_ascending_or_twice_or_of_no_relation(self):
        suits = Suits(["a", "b", "ab", "z"], [("a", "z")])
        row = ["a", "b", "ab", "b"]
        self.assert_truth(is_crowd(suits, row, ["a", "ab", "b"]), True)
        for thing in (["b", "a"], ["ab", "a"], ["a", "b", "ab"], ["a", "a"], ["a", "ab", "b", "b"], ["b", "b"], ["c"],
                      ["a", "c"], ["a", "ab", "b", "c"], ["aa", "b"], ["A"], ["a", ""], ["a "], [""], ["abcdefghi"]):
            self.assert_truth(is_crowd(suits, row, thing), False)

    def test_an_excess_of_0(self):
        self.assert_truth(is_crowd(R, ["a", "b"], ["a"]), False)
        self.assert_truth(is_crowd(R, ["a", "b", "a"], ["a"]), True)
        self.assert_truth(is_crowd(R, ["b", "b", "a"], ["a"]), False)
        self.assert_truth(is_crowd(R, [], ["a"]), False)
        for kinds, pairs, suits, row in made_rows(57):
            self.assert_truth(is_crowd(suits, row, []), False)

    def test_any_value(self):
        suits = Suits(["a", "ab", "b"], [])
        row = ["a", "ab", "b"] * 10
        for thing in odd_values() + [nested(8), [nested(7)], ["a", nested(7)], tuple(nested(7))]:
            for value in (thing, [thing], ["a", thing], [thing, "b"], ["a", thing, "b"], (thing,), [["a"], thing]):
                self.assert_truth(is_crowd(suits, row, value), False)

    def test_other_containers(self):
        for thing in (("a",), {"a"}, {"a": 1}, "a", b"a", [("a",)], [["a"]], frozenset("a"), iter(["a"]), [b"a"], None):
            self.assert_truth(is_crowd(R, ["a"], thing), False)
        self.assert_truth(is_crowd(R, ["a"], ["a"]), True)


class Growth(unittest.TestCase):
    def test_a_run_raises_the_surplus_at_least_by_the_excess(self):
        chance = random.Random(58)
        for kinds, pairs, suits, row in made_rows(59):
            for most in (0, 5, 30):
                line = model.random_line(chance, kinds, pairs, most)
                then = model.after(pairs, line, row)
                for members in suits.calm_sets():
                    rise = surplus(suits, then, members) - surplus(suits, line, members)
                    self.assertGreaterEqual(rise, excess(suits, row, members))

    def test_a_crowd_grows_with_each_repetition(self):
        for kinds, pairs, suits, row in made_rows(60, (4, 9)):
            number, members = crowd(suits, row)
            line = []
            for many in range(1, 8):
                line = model.after(pairs, line, row)
                self.assertGreaterEqual(surplus(suits, line, members), many * number)
                self.assertGreaterEqual(len(line), many * number)


if __name__ == "__main__":
    unittest.main()
