"""[71], [10]: whether two rows do the same to every line, with a table or the first line that shows the difference."""

import itertools
import random
import unittest

from suitedpairs.alike import compare, separates
from suitedpairs.errors import TooMany
from suitedpairs.suits import Suits
from suitedpairs.tables import is_table
from tests import model, two_rows
from tests.values import Keeping, all_lists_up_to

R = Suits(["a", "b", "c"], [("a", "b"), ("b", "c"), ("c", "c")])


def short_rows(most):
    """Relations with each two rows of at most so many newcomers."""
    for kinds, pairs in model.small_relations():
        suits = Suits(kinds, pairs)
        for one, other in itertools.product(all_lists_up_to(kinds, most), repeat=2):
            yield kinds, pairs, suits, one, other


def some_longer_rows(seed):
    """Relations of at most three kinds with two rows of three newcomers, or of three and one."""
    chance = random.Random(seed)
    for kinds, pairs in model.small_relations():
        for many in (3, 3, 1):
            one = model.random_row(chance, kinds, 3)
            yield kinds, pairs, Suits(kinds, pairs), one, two_rows.exchanged(chance, one)[:many]


class Separates(Keeping, unittest.TestCase):
    def test_short_lines(self):
        for kinds, pairs, suits, one, other in list(short_rows(2))[::9] + list(some_longer_rows(81)):
            for line in model.lines_up_to(kinds, pairs, 2):
                wanted = model.after(pairs, line, one) != model.after(pairs, line, other)
                self.assert_truth(separates(suits, one, other, line), wanted)

    def test_long_lines(self):
        chance = random.Random(82)
        said = []
        for kinds, pairs, suits, one, other in two_rows.made_rows(83, (4, 16)):
            line = model.random_line(chance, kinds, pairs, 200)
            wanted = model.after(pairs, line, one) != model.after(pairs, line, other)
            self.assert_truth(separates(suits, one, other, line), wanted)
            said.append(wanted)
        self.assertGreater(min(said.count(True), said.count(False)), 50)

    def test_edges(self):
        self.assert_truth(separates(R, [], [], []), False)
        self.assert_truth(separates(R, ["a"], [], []), True)
        self.assert_truth(separates(R, ["a", "b"], [], []), False)
        self.assert_truth(separates(R, ["b", "a"], [], ["c"]), True)
        self.assert_truth(separates(R, ["b", "a"], ["b", "a"], ["c"]), False)
        self.assert_truth(separates(R, ["a", "c"], ["c", "a"], []), True)
        self.assert_truth(separates(R, ["b"] * 16, ["b"] * 15, ["a"] * 200), True)


class Compare(Keeping, unittest.TestCase):
    def raised_by_limit(self, suits, one, other, limit):
        """The limit of the TooMany that compare raises."""
        with self.assertRaises(TooMany) as caught:
            compare(suits, one, other, limit=limit)
        self.assertIs(caught.exception.__class__, TooMany)
        return caught.exception.limit

    def assert_compared(self, kinds, pairs, suits, one, other):
        """What the model tells, with limits just enough and one fewer; returns the word and the number of the nodes."""
        wanted, many = two_rows.compare(kinds, pairs, one, other)
        self.assertLessEqual(many, 400)
        found = compare(suits, one, other)
        self.assertEqual(repr(found), repr(wanted))
        self.assertEqual(repr(compare(suits, one, other, limit=many)), repr(wanted))
        if many > 1:
            for limit in {many - 1, 1, (many + 1) // 2}:
                self.assertEqual(repr(self.raised_by_limit(suits, one, other, limit)), repr(limit))
        if found[0] == "alike":
            self.assert_truth(is_table(suits, one, other, found[1]), True)
        else:
            self.assertTrue(model.is_line(pairs, found[1]))
            self.assert_truth(separates(suits, one, other, found[1]), True)
            # A line that shows the difference has at most as many persons as both rows have newcomers, and one more.
            self.assertLessEqual(len(found[1]), len(one) + len(other) + 1)
        return found[0], many

    def test_short_rows(self):
        for kinds, pairs, suits, one, other in list(short_rows(2))[::2] + list(some_longer_rows(84)):
            self.assert_compared(kinds, pairs, suits, one, other)

    def test_longer_rows(self):
        said = [self.assert_compared(*case) for case in two_rows.made_rows(85, (4, 7, 10))]
        self.assertGreater(len([many for word, many in said if word == "alike" and many > 20]), 20)
        self.assertGreater(len([many for word, many in said if word == "apart" and many > 5]), 20)

    def test_the_longest_rows(self):
        relations = [(["a", "b", "c"], [("a", "b"), ("b", "c"), ("c", "c")]), (["a", "b"], [("a", "b")]),
                     (["a", "b", "c", "d"], Suits.ring(["a", "b", "c", "d"]).pairs()),
                     (model.LETTERS, model.possible_pairs(model.LETTERS)), (model.LETTERS[:3], [("a", "a")])]
        for case in two_rows.made_rows(86, (16,), relations * 2):
            self.assert_compared(*case)

    def test_against_all_lines(self):
        # As many persons as both rows have newcomers, and one more.
        said = []
        for kinds, pairs, suits, one, other in list(short_rows(2))[::5] + list(some_longer_rows(87))[::3]:
            most = len(one) + len(other) + 1
            lines = model.lines_up_to(kinds, pairs, most if len(kinds) < 3 else min(most, 5))
            apart = [line for line in lines if model.after(pairs, line, one) != model.after(pairs, line, other)]
            found = compare(suits, one, other)
            if apart:
                self.assertEqual(found, ("apart", apart[0]))
            elif most <= 5 or len(kinds) < 3:
                self.assertEqual(found[0], "alike")
            said.append(found[0])
        self.assertGreater(said.count("alike"), 200)
        self.assertGreater(said.count("apart"), 1000)

    def test_alike_rows_do_the_same_to_long_lines(self):
        chance = random.Random(88)
        for kinds, pairs, suits, one, other in two_rows.made_rows(89, (5, 9)):
            if compare(suits, one, other)[0] == "alike":
                for _ in range(3):
                    line = model.random_line(chance, kinds, pairs, 40)
                    self.assertEqual(model.after(pairs, line, one), model.after(pairs, line, other))

    def test_both_ways_round(self):
        for kinds, pairs, suits, one, other in list(short_rows(2))[::7] + list(two_rows.made_rows(90, (3, 6))):
            word, found = compare(suits, one, other)
            turned = found if word == "apart" else [(last, first, members) for first, last, members in found]
            self.assertEqual(compare(suits, other, one), (word, turned))

    def test_a_row_is_alike_to_itself(self):
        chance = random.Random(91)
        for kinds, pairs in model.small_relations() + model.large_relations():
            suits = Suits(kinds, pairs)
            for many in (0, 1, 3):
                row = model.random_row(chance, kinds, many)
                self.assertEqual(compare(suits, row, list(row))[0], "alike")
                self.assert_compared(kinds, pairs, suits, row, row)

    def test_the_ends_are_not_equal(self):
        for one, other in ((["a"], []), ([], ["a"]), (["a"], ["b"]), (["a", "c"], ["c", "a"]), (["c", "c", "c"], [])):
            self.assertEqual(compare(R, one, other), ("apart", []))
            self.assertEqual(compare(R, one, other, limit=1), ("apart", []))

    def test_no_newcomers(self):
        self.assertEqual(compare(Suits(["a"], []), [], []), ("alike", [([], [], []), ([], [], ["a"])]))
        self.assertEqual(compare(Suits(["a"], [("a", "a")]), [], []), ("alike", [([], [], []), ([], [], ["a"])]))
        nodes = [([], [], members) for members in ([], ["b"], ["a"], ["a", "b"])]
        self.assertEqual(compare(Suits(["b", "a"], []), [], [])[1], [nodes[at] for at in (0, 2, 1, 3)])

    def test_more_than_400_nodes(self):
        free = Suits(model.LETTERS, [])
        self.assertEqual(len(compare(free, ["a"], ["a"])[1]), 256)
        self.assertEqual(len(compare(free, ["a"], ["a"], limit=256)[1]), 256)
        self.assertEqual(self.raised_by_limit(free, ["a"], ["a"], 255), 255)
        suits = Suits(model.LETTERS, [("a", "h")])
        row = ["a"] * 16
        self.assertEqual(repr(self.raised(TooMany, compare, suits, row, row).limit), "400")
        self.assertEqual(self.raised_by_limit(suits, row, row, 400), 400)

    def test_a_difference_is_told_before_the_limit(self):
        # By a and by b nodes are met; the node that shows the difference is not met.
        self.assertEqual(compare(R, ["b", "a"], [], limit=3), ("apart", ["c"]))
        self.assertEqual(self.raised_by_limit(R, ["b", "a"], [], 2), 2)
        suits = Suits(["a", "b"], [("a", "a"), ("a", "b")])
        self.assertEqual(compare(suits, ["a", "b"], [], limit=1), ("apart", ["a"]))

    def test_the_limit_is_passed_by_keyword(self):
        with self.assertRaises(TypeError):
            compare(R, [], [], 400)


if __name__ == "__main__":
    unittest.main()
