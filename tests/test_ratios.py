"""[90], [4]: exact quotients."""

import itertools
import random
import unittest
from fractions import Fraction

from suitedpairs.errors import Wrong
from suitedpairs.ratios import Ratio, added
from tests.values import Keeping, nested, odd_values

SMALL = [(top, bottom) for top in range(-6, 7) for bottom in range(-6, 7) if bottom != 0]
GREAT = [10 ** 39, 10 ** 40 - 1, -(10 ** 39) + 7, 2 ** 130, 3 ** 80, -(2 ** 64) * 3 ** 30, 12, -1, 1]
MIXED = [(top, bottom) for top in GREAT + [0] for bottom in GREAT]


def made(seed, many, digits):
    """Tops and bottoms of up to so many digits, many of them with common divisors."""
    chance = random.Random(seed)
    for _ in range(many):
        common = chance.randint(1, 10 ** chance.randint(0, digits // 2))
        top, bottom = (chance.randint(1, 10 ** chance.randint(1, digits // 2)) for _ in range(2))
        yield common * top * chance.choice((-1, 1)), common * bottom * chance.choice((-1, 1))


class Values(Keeping, unittest.TestCase):
    def assert_is(self, ratio, fraction):
        self.assertIs(ratio.__class__, Ratio)
        self.assertEqual((ratio.top, ratio.bottom), (fraction.numerator, fraction.denominator))
        self.assertEqual((ratio.top.__class__, ratio.bottom.__class__), (int, int))
        self.assertEqual(repr(ratio), f"Ratio({fraction.numerator}, {fraction.denominator})")
        self.assert_truth(bool(ratio), fraction != 0)

    def test_lowest_terms(self):
        for top, bottom in [*SMALL, *MIXED, *made(1, 300, 40)]:
            self.assert_is(Ratio(top, bottom), Fraction(top, bottom))

    def test_as_they_are_written(self):
        for top, bottom, wanted in ((6, -8, "Ratio(-3, 4)"), (0, -5, "Ratio(0, 1)"), (0, 7, "Ratio(0, 1)"),
                                    (-6, -3, "Ratio(2, 1)"), (5, 1, "Ratio(5, 1)"), (-5, 1, "Ratio(-5, 1)"),
                                    (10 ** 39, 10 ** 39, "Ratio(1, 1)"), (4, 6, "Ratio(2, 3)"),
                                    (-(10 ** 39), 3, f"Ratio(-1{'0' * 39}, 3)"),
                                    (1, 10 ** 39, f"Ratio(1, 1{'0' * 39})")):
            self.assertEqual(repr(Ratio(top, bottom)), wanted)

    def test_sums_differences_and_products(self):
        pairs = [*SMALL[::3], *made(2, 25, 40), *MIXED[::9]]
        for one, other in itertools.product(pairs, repeat=2):
            first, second = Ratio(*one), Ratio(*other)
            wanted = Fraction(*one), Fraction(*other)
            self.assert_is(first + second, wanted[0] + wanted[1])
            self.assert_is(first - second, wanted[0] - wanted[1])
            self.assert_is(first * second, wanted[0] * wanted[1])
            # The operands stay.
            self.assert_is(first, wanted[0])
            self.assert_is(second, wanted[1])

    def test_an_operand_twice(self):
        for top, bottom in SMALL[::2] + MIXED[::5]:
            ratio, wanted = Ratio(top, bottom), Fraction(top, bottom)
            self.assert_is(ratio + ratio, wanted * 2)
            self.assert_is(ratio - ratio, Fraction(0))
            self.assert_is(ratio * ratio, wanted * wanted)
            self.assert_is(ratio, wanted)

    def test_adding_to_a_name_makes_a_new_one(self):
        first = Ratio(1, 2)
        name = first
        name += Ratio(1, 3)
        self.assert_is(name, Fraction(5, 6))
        name -= Ratio(1, 6)
        name *= Ratio(3, 1)
        self.assert_is(name, Fraction(2))
        self.assert_is(first, Fraction(1, 2))

    def test_far_beyond_40_digits(self):
        ratio, wanted = Ratio(10 ** 39 + 7, 3 ** 70), Fraction(10 ** 39 + 7, 3 ** 70)
        other, further = Ratio(-(2 ** 120), 10 ** 39 - 1), Fraction(-(2 ** 120), 10 ** 39 - 1)
        for _ in range(5):
            ratio, wanted = ratio * ratio - other, wanted * wanted - further
            other, further = other + ratio * other, further + wanted * further
            self.assert_is(ratio, wanted)
            self.assert_is(other, further)
            self.assert_truth(ratio.less(other), wanted < further)
            self.assert_truth(other.less(ratio), further < wanted)
        self.assertGreater(len(str(ratio.top)), 1000)
        self.assert_is(Ratio(ratio.top * 5, ratio.bottom * -10), -wanted / 2)

    def test_more_digits_than_python_writes_at_once(self):
        for many in (49, 50, 51, 99, 100, 4299, 4300, 4301, 10000):
            ratio = Ratio(1, 1)
            for _ in range(many // 30):
                ratio = ratio * Ratio(10 ** 30, 1)
            ratio = ratio * Ratio(10 ** (many % 30), 1)
            zeros = "0" * many
            self.assertEqual(repr(ratio), f"Ratio(1{zeros}, 1)")
            self.assertEqual(repr(ratio * Ratio(-1, 7)), f"Ratio(-1{zeros}, 7)")
            self.assertEqual(repr(Ratio(3, 1) + ratio), f"Ratio(1{zeros[1:]}3, 1)")
            self.assertEqual(repr(Ratio(1, 1) - ratio), f"Ratio(-{'9' * many}, 1)")
            self.assertEqual(repr(Ratio(1, ratio.top)), f"Ratio(1, 1{zeros})")


class Order(Keeping, unittest.TestCase):
    def test_less_and_equal(self):
        pairs = [*SMALL[::2], *made(3, 30, 30), *MIXED[::8]]
        for one, other in itertools.product(pairs, repeat=2):
            first, second = Ratio(*one), Ratio(*other)
            self.assert_truth(first.less(second), Fraction(*one) < Fraction(*other))
            self.assert_truth(first == second, Fraction(*one) == Fraction(*other))
            self.assert_truth(first != second, Fraction(*one) != Fraction(*other))

    def test_nearly_the_same(self):
        most = 10 ** 39
        self.assert_truth(Ratio(most, most + 1).less(Ratio(most + 1, most + 2)), True)
        self.assert_truth(Ratio(most + 1, most + 2).less(Ratio(most, most + 1)), False)
        self.assert_truth(Ratio(most, most + 1) == Ratio(most + 1, most + 2), False)
        self.assert_truth(Ratio(-most, most + 1).less(Ratio(-most - 1, most + 2)), False)
        self.assert_truth(Ratio(1, most).less(Ratio(0, 1)), False)
        self.assert_truth(Ratio(-1, most).less(Ratio(0, 1)), True)

    def test_not_less_than_itself(self):
        for top, bottom in SMALL:
            ratio = Ratio(top, bottom)
            self.assert_truth(ratio.less(ratio), False)
            self.assert_truth(ratio.less(Ratio(-top, -bottom)), False)
            self.assert_truth(ratio == ratio, True)

    def test_equal_to_no_other_value(self):
        for ratio in (Ratio(0, 1), Ratio(1, 1), Ratio(-1, 2), Ratio(7, 1)):
            for value in odd_values() + [Fraction(1), Fraction(0), Fraction(-1, 2), (1, 1), [0, 1], repr(ratio), Ratio,
                                         "Ratio(1, 1)", nested(8)]:
                self.assert_truth(ratio == value, False)
                self.assert_truth(ratio != value, True)
                self.assert_truth(value == ratio, False)

    def test_equal_to_what_only_looks_like_it(self):
        class Looks:
            top, bottom, _top, _bottom = 1, 1, 1, 1

        self.assert_truth(Ratio(1, 1) == Looks(), False)

    def test_in_conditions(self):
        self.assertEqual([bool(Ratio(top, 3)) for top in (-1, 0, 1)], [True, False, True])
        self.assertEqual(["so" if Ratio(top, -(10 ** 39)) else "not" for top in (0, 1)], ["not", "so"])
        self.assert_truth(not Ratio(1, 3) - Ratio(2, 6), True)
        self.assert_truth(not Ratio(1, 3) - Ratio(2, 7), False)


class Refusals(Keeping, unittest.TestCase):
    def assert_wrong(self, place, top, bottom):
        self.assertEqual(self.raised(Wrong, Ratio, top, bottom).place, place)

    def test_values_that_are_no_integers(self):
        for value in odd_values() + [Ratio(1, 1), Fraction(1), nested(8), "1", [1], (1,)]:
            if value.__class__ is not int:
                self.assert_wrong(0, value, 1)
                self.assert_wrong(1, 1, value)
                self.assert_wrong(0, value, 0)
                self.assert_wrong(0, value, value)

    def test_the_bottom_0(self):
        for top in (0, 1, -1, 10 ** 39):
            self.assert_wrong(1, top, 0)

    def test_truths(self):
        for value in (True, False):
            self.assert_wrong(0, value, 1)
            self.assert_wrong(1, 1, value)
            self.assert_wrong(0, value, value)
            self.assert_wrong(0, value, 0)

    def test_both_places(self):
        for top, bottom in ((None, 0), ("1", None), (True, 0), ([], ""), (None, True), (False, False)):
            self.assert_wrong(0, top, bottom)


class Objects(unittest.TestCase):
    def test_top_and_bottom_are_properties(self):
        for name in ("top", "bottom"):
            self.assertIsInstance(vars(Ratio)[name], property)
            with self.assertRaises(AttributeError):
                setattr(Ratio(1, 2), name, 3)

    def test_asked_again(self):
        ratio = Ratio(6, -8)
        before = [repr(ratio), ratio.top, ratio.bottom, bool(ratio), ratio.less(Ratio(0, 1)), ratio == Ratio(-3, 4)]
        for _ in range(3):
            self.assertEqual([repr(ratio), ratio.top, ratio.bottom, bool(ratio), ratio.less(Ratio(0, 1)),
                              ratio == Ratio(-3, 4)], before)

    def test_added(self):
        self.assertEqual(repr(added([])), "Ratio(0, 1)")
        parts = [Ratio(1, many) for many in range(1, 20)]
        wanted = sum(Fraction(1, many) for many in range(1, 20))
        for _ in range(2):
            self.assertEqual(repr(added(parts)), f"Ratio({wanted.numerator}, {wanted.denominator})")


if __name__ == "__main__":
    unittest.main()
