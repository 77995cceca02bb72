"""[94], [12]: the sums over all lines in which just the kinds of a set wait."""

import random
import unittest
from fractions import Fraction

from suitedpairs.errors import Crowded
from suitedpairs.ratios import Ratio
from suitedpairs.sums import total
from suitedpairs.suits import Suits
from tests import model, weighed
from tests.values import Keeping, spoil

R = Suits(["a", "b", "c"], [("a", "b"), ("b", "c"), ("c", "c")])
WEIGHTS = [("a", 1), ("b", 2), ("c", 2)]


def fraction(ratio):
    """A Ratio as a Fraction."""
    return Fraction(ratio.top, ratio.bottom)


def steady_sets(most_kinds=5, each=25, seed=82):
    """Relations with weights of which totals are told, with each set of which they are told."""
    for kinds, pairs, weights in weighed.steady_relations(most_kinds, each, seed):
        suits = Suits(kinds, pairs)
        for members in weighed.peaceful_sets(kinds, pairs):
            yield kinds, pairs, suits, weights, members


class Total(unittest.TestCase):
    def test_the_sum_of_the_point(self):
        seen = 0
        for kinds, pairs, suits, weights, members in steady_sets():
            ratio = total(suits, weights, members)
            self.assertIs(ratio.__class__, Ratio)
            self.assertEqual(fraction(ratio), weighed.total(kinds, pairs, weights, members))
            seen += 1
        self.assertGreater(seen, 1000)

    def test_the_equation_of_the_point(self):
        for kinds, pairs, suits, weights, members in steady_sets(5, 15, 83):
            if members:
                mates = weighed.weight(weights, model.mates(kinds, pairs, members))
                free = weighed.weight(weights, [kind for kind in members if not model.do_suit(pairs, kind, kind)])
                self.assertGreater(mates, free)
                parts = [Ratio(weighed.weight(weights, [kind]), 1)
                         * total(suits, weights, [other for other in members if other != kind]) for kind in members]
                self.assertEqual(fraction(total(suits, weights, members)) * (mates - free), sum(map(fraction, parts)))

    def test_the_empty_set(self):
        for kinds, pairs, suits, weights, members in steady_sets(5, 5, 84):
            if not members:
                self.assertEqual(repr(total(suits, weights, [])), "Ratio(1, 1)")

    def test_products_of_the_shortest_lines(self):
        seen = 0
        for kinds, pairs in weighed.relations(4, 4, 85):
            chance = random.Random(seen)
            weights = weighed.made_weights(chance, kinds, 3)
            if not weighed.all_full(kinds, pairs, weights):
                suits = Suits(kinds, pairs)
                lines = model.lines_up_to(kinds, pairs, 6)
                for members in weighed.peaceful_sets(kinds, pairs):
                    self.assert_comes_near(kinds, pairs, suits, weights, members, lines)
                    seen += 1
        self.assertGreater(seen, 60)

    def assert_comes_near(self, kinds, pairs, suits, weights, members, lines):
        """The sums over the shortest lines never go above the total, and reach it if no line is longer."""
        wanted = fraction(total(suits, weights, members))
        fit = [line for line in lines if sorted(set(line)) == members]
        known = Fraction(0)
        for many in range(7):
            more = sum(weighed.product(kinds, pairs, weights, line) for line in fit if len(line) == many)
            known += more
            self.assertLessEqual(known, wanted)
        if all(model.do_suit(pairs, kind, kind) for kind in members):
            self.assertEqual(known, wanted)
        elif members:
            self.assertLess(known, wanted)

    def test_products_of_many_lines_come_as_near_as_can_be(self):
        # In lines of one kind alone the products are powers, so that what is missing is known exactly.
        suits = Suits(["a", "b"], [("a", "b"), ("b", "b")])
        weights = [("a", 2), ("b", 5)]
        wanted = fraction(total(suits, weights, ["a"]))
        known = sum(Fraction(2, 5) ** many for many in range(1, 40))
        self.assertEqual(wanted - known, wanted * Fraction(2, 5) ** 39)
        self.assertEqual(wanted, Fraction(2, 3))

    def test_the_example_of_shares(self):
        wanted = {(): "1, 1", ("a",): "1, 1", ("b",): "2, 1", ("c",): "1, 2", ("a", "c"): "5, 6"}
        for members, text in wanted.items():
            self.assertEqual(repr(total(R, WEIGHTS, list(members))), f"Ratio({text})")
        # So the share of the empty line is 3 of 16.
        self.assertEqual(sum(fraction(total(R, WEIGHTS, list(members))) for members in wanted), Fraction(16, 3))

    def test_one_kind_that_suits_itself(self):
        suits = Suits(["a"], [("a", "a")])
        for number in (1, 7, 1000):
            self.assertEqual(repr(total(suits, [("a", number)], ["a"])), "Ratio(1, 1)")

    def test_kinds_that_all_suit_themselves_and_nobody_else(self):
        kinds = ["a", "b", "c", "d", "e"]
        suits = Suits(kinds, [(kind, kind) for kind in kinds])
        weights = [("a", 1), ("b", 10), ("c", 100), ("d", 1000), ("e", 999)]
        for members in model.subsets(kinds):
            # Each line has each of its kinds once, and all orders come to 1 together.
            self.assertEqual(repr(total(suits, weights, members)), "Ratio(1, 1)")

    def test_all_suit_each_other(self):
        suits = Suits.each(["a", "b", "c"])
        weights = [("a", 3), ("b", 4), ("c", 5)]
        self.assertEqual([repr(total(suits, weights, [kind])) for kind in "abc"],
                         ["Ratio(1, 2)", "Ratio(1, 1)", "Ratio(5, 2)"])

    def test_the_same_for_many_times_the_weights(self):
        for kinds, pairs, suits, weights, members in steady_sets(5, 6, 86):
            if max(number for _, number in weights) <= 5:
                more = [(kind, number * 200) for kind, number in weights]
                self.assertEqual(total(suits, more, members), total(suits, weights, members))


class Refusals(Keeping, unittest.TestCase):
    def told(self, suits, weights, members):
        """What total returns, or the set with which it refuses."""
        try:
            return total(suits, weights, members)
        except Crowded as error:
            return error.members

    def test_crowded_with_the_first_full_set(self):
        seen = 0
        for kinds, pairs, weights in weighed.weighed_relations(5, 12, 87):
            full = weighed.all_full(kinds, pairs, weights)
            for members in weighed.peaceful_sets(kinds, pairs):
                found = self.told(Suits(kinds, pairs), weights, members)
                if full:
                    self.assertEqual(found, full[0])
                    seen += 1
                else:
                    self.assertIs(found.__class__, Ratio)
        self.assertGreater(seen, 500)

    def test_before_anything_else(self):
        # Also if the set asked for has nothing to do with the full one, or is empty.
        suits = Suits(["a", "b", "c"], [("a", "b"), ("c", "c")])
        weights = [("a", 2), ("b", 1), ("c", 9)]
        for members in ([], ["a"], ["b"], ["c"], ["a", "c"], ["b", "c"]):
            self.assertEqual(self.raised(Crowded, total, suits, weights, members).members, ["a"])

    def test_just_the_weight_of_the_mates_one_less_one_more(self):
        suits = Suits(["a", "b", "c"], [("a", "b"), ("b", "c"), ("c", "c")])
        for number, wanted in ((4, None), (5, ["b"]), (6, ["b"])):
            self.assertEqual(self.full_of(suits, [("a", 2), ("b", number), ("c", 3)]), wanted)
        for number, wanted in ((2, ["a"]), (3, ["a"]), (4, None)):
            self.assertEqual(self.full_of(suits, [("a", 3), ("b", number), ("c", 9)]), wanted)
        for number, wanted in ((999, None), (1000, ["a"])):
            self.assertEqual(self.full_of(suits, [("a", number), ("b", 1000), ("c", 1000)]), wanted)

    def full_of(self, suits, weights):
        found = self.told(suits, weights, [])
        return found if isinstance(found, list) else None

    def test_fewest_kinds_first_and_then_ascending(self):
        suits = Suits(["a", "b", "c", "z"], [("a", "z"), ("b", "z"), ("c", "z"), ("z", "z")])
        for weights, wanted in (([1, 2, 2, 4], ["b", "c"]), ([1, 2, 4, 4], ["c"]), ([2, 2, 2, 4], ["a", "b"]),
                                ([1, 1, 2, 4], ["a", "b", "c"]), ([1, 1, 1, 4], None), ([4, 4, 4, 4], ["a"])):
            self.assertEqual(self.full_of(suits, list(zip(["a", "b", "c", "z"], weights))), wanted)

    def test_lonely_kinds_are_full(self):
        for weights in ([("a", 1), ("b", 1000), ("x", 1)], [("a", 1000), ("b", 999), ("x", 1)]):
            suits = Suits(["a", "b", "x"], [("a", "b"), ("b", "b")])
            wanted = ["x"] if weights[0][1] == 1 else ["a"]
            self.assertEqual(self.raised(Crowded, total, suits, weights, []).members, wanted)

    def test_the_members_belong_to_the_caller(self):
        weights = [("a", 2), ("b", 2), ("c", 1)]
        for _ in range(3):
            error = self.raised(Crowded, total, R, weights, ["a"])
            self.assertEqual(error.members, ["a"])
            spoil(error.members)
        self.assertEqual(R.calm_sets(), [[], ["a"], ["b"]])


if __name__ == "__main__":
    unittest.main()
