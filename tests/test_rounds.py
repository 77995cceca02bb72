"""[60], [9]: rounds, where they come back to, and the line after very many of them."""

import random
import unittest

from suitedpairs.crowds import crowd
from suitedpairs.errors import TooMany
from suitedpairs.rounds import again, cycle, is_cycle
from suitedpairs.suits import Suits
from tests import model
from tests.values import Keeping, all_lists_up_to, nested, odd_values

R = Suits(["a", "b", "c"], [("a", "b"), ("b", "c"), ("c", "c")])
# Each newcomer takes one person of a line of b; then they take each other.
SLOW = Suits(["a", "b"], [("a", "a"), ("a", "b")])


def lines_of_rounds(pairs, line, row, many):
    """The lines after 0, 1 and so on to so many rounds."""
    found = [line]
    for _ in range(many):
        found.append(model.after(pairs, found[-1], row))
    return found


def first_cycle(pairs, line, row, most):
    """The least lead and length that are together not greater than a number, or None: all are tried."""
    lines = lines_of_rounds(pairs, line, row, most)
    for lead in range(most):
        for length in range(1, most - lead + 1):
            if lines[lead] == lines[lead + length]:
                return lead, length
    return None


def short_cases():
    """Relations with short lines and short rows."""
    for kinds, pairs in model.small_relations():
        suits = Suits(kinds, pairs)
        for line in model.lines_up_to(kinds, pairs, 2):
            for row in all_lists_up_to(kinds, 2):
                yield pairs, suits, line, row


def long_cases(seed, rows=(6, 15, 40)):
    """Relations with lines of some kinds or of one kind, and rows, many of which come back."""
    chance = random.Random(seed)
    for kinds, pairs in model.small_relations()[1::2] + model.large_relations(5):
        suits = Suits(kinds, pairs)
        for many in rows:
            row = model.random_row(chance, kinds, many)
            if crowd(suits, row)[0] > 0:
                row = (row + model.random_row(chance, kinds, many) * 2)[-many:]
            one = chance.choice(kinds)
            fit = not model.do_suit(pairs, one, one)
            for line in ([], model.random_line(chance, kinds, pairs, 12), [one] * chance.randint(5, 30) * fit):
                yield pairs, suits, line, row


class Cases(Keeping, unittest.TestCase):
    def assert_cycle(self, pairs, suits, line, row, most):
        """The cycle is that of the model, with limits just enough and one fewer; returns it."""
        wanted = first_cycle(pairs, line, row, most)
        if wanted is None:
            self.assertEqual(self.raised_by_limit(cycle, most, suits, line, row), most)
            return None
        found = cycle(suits, line, row)
        self.assertEqual(repr(found), repr(wanted))
        enough = sum(wanted)
        self.assertEqual(cycle(suits, line, row, limit=enough), wanted)
        self.assertEqual(cycle(suits, line, row, limit=400), wanted)
        if enough > 1:
            self.assertEqual(self.raised_by_limit(cycle, enough - 1, suits, line, row), enough - 1)
            self.assertEqual(self.raised_by_limit(cycle, 1, suits, line, row), 1)
        return wanted

    def raised_by_limit(self, call, limit, *arguments):
        """The limit of the TooMany that a call with this limit raises."""
        with self.assertRaises(TooMany) as caught:
            call(*arguments, limit=limit)
        self.assertIs(caught.exception.__class__, TooMany)
        return caught.exception.limit


class Cycle(Cases):
    def test_short_ones(self):
        found = [self.assert_cycle(pairs, suits, line, row, 8) for pairs, suits, line, row in short_cases()]
        self.assertGreater(len([one for one in found if one is None]), 500)
        self.assertGreater(len(set(found)), 5)

    def test_long_ones(self):
        found = [self.assert_cycle(pairs, suits, line, row, 20) for pairs, suits, line, row in long_cases(61)]
        self.assertGreater(len([one for one in found if one is not None]), 100)
        self.assertGreater(len(set(found)), 10)

    def test_no_newcomers(self):
        for line in ([], ["a"], ["a", "c", "a"], ["b"] * 120, ["a"] * 200):
            self.assertEqual(cycle(R, line, []), (0, 1))
            self.assertEqual(cycle(R, line, [], limit=1), (0, 1))
            self.assertEqual(again(R, line, [], 10 ** 18), line)
            self.assertEqual(again(R, line, [], 10 ** 18, limit=1), line)

    def test_long_lines_of_one_kind(self):
        each = Suits.each(["a", "b", "c"])
        for suits, kind, row in ((SLOW, "b", ["a"]), (SLOW, "b", ["a", "a", "b"]), (each, "a", ["b", "c"]),
                                 (each, "c", ["a", "b"] * 20), (R, "a", ["b", "c", "a", "b"]), (R, "b", ["c"])):
            for many in (1, 2, 59, 60, 119, 120):
                self.assert_cycle(suits.pairs(), suits, [kind] * many, row, 125)

    def test_the_least_lead_and_then_the_least_length(self):
        self.assertEqual(cycle(SLOW, ["b"] * 120, ["a"]), (120, 2))
        self.assertEqual(cycle(SLOW, ["b"] * 120, ["a", "a"]), (60, 1))
        self.assertEqual(cycle(SLOW, ["b"] * 121, ["a", "a"]), (61, 1))
        self.assertEqual(cycle(SLOW, [], ["a"]), (0, 2))
        self.assertEqual(cycle(SLOW, ["a"], ["a"]), (0, 2))
        self.assertEqual(cycle(R, ["a"] * 120, ["b", "a"]), (0, 1))
        self.assertEqual(cycle(Suits.each(["a", "b", "c"]), ["a"] * 120, ["b", "c"]), (60, 1))

    def test_the_limit_of_400(self):
        self.assertEqual(cycle(SLOW, ["b"] * 398, ["a"]), (398, 2))
        self.assertEqual(cycle(SLOW, ["b"] * 398, ["a"], limit=400), (398, 2))
        self.assertEqual(self.raised_by_limit(cycle, 399, SLOW, ["b"] * 398, ["a"]), 399)
        self.assertEqual(self.raised(TooMany, cycle, SLOW, ["b"] * 399, ["a"]).limit, 400)
        self.assertEqual(self.raised_by_limit(cycle, 400, SLOW, ["b"] * 399, ["a"]), 400)

    def test_no_line_comes_again(self):
        for line, row in (([], ["a"]), (["a"], ["a", "a", "b"]), ([], ["b"] * 40), (["c"], ["a"]),
                          (["a"] * 120, ["a"])):
            self.assertEqual(repr(self.raised(TooMany, cycle, R, line, row).limit), "400")
            for limit in (1, 2, 9, 399, 400):
                self.assertEqual(repr(self.raised_by_limit(cycle, limit, R, line, row)), repr(limit))

    def test_the_limit_is_passed_by_keyword(self):
        for call, arguments in ((cycle, (R, [], ["a", "b"])), (again, (R, [], ["a", "b"], 5))):
            with self.assertRaises(TypeError):
                call(*arguments, 400)


class IsCycle(Cases):
    def test_all_small_numbers(self):
        for pairs, suits, line, row in list(short_cases())[::7]:
            wanted = first_cycle(pairs, line, row, 8)
            for lead in range(-1, 4):
                for length in range(-1, 4):
                    self.assert_truth(is_cycle(suits, line, row, (lead, length)), (lead, length) == wanted)

    def test_long_ones(self):
        for pairs, suits, line, row in list(long_cases(62))[::3]:
            wanted = first_cycle(pairs, line, row, 20)
            if wanted is None:
                self.assert_truth(is_cycle(suits, line, row, (0, 1)), False)
            else:
                lead, length = wanted
                self.assert_truth(is_cycle(suits, line, row, wanted), True)
                for thing in ((lead + 1, length), (lead - 1, length), (lead, 2 * length), (lead, length - 1),
                              (lead, length + 1), (lead, -length), (lead, 0), (lead + length, length),
                              (-lead - 1, length), (lead + 10 ** 39, length), (lead, length, length), (lead,),
                              (lead, length, 0), [lead, length]):
                    self.assert_truth(is_cycle(suits, line, row, thing), False)
                self.assert_truth(is_cycle(suits, line, row, (length, lead)), lead == length)

    def test_truths_are_no_numbers(self):
        for suits, line, row, wanted in ((R, [], ["a", "b"], (0, 1)), (R, ["c"], ["a", "b"], (1, 1)),
                                         (SLOW, [], ["a"], (0, 2)), (SLOW, ["b"], ["a"], (1, 2))):
            self.assert_truth(is_cycle(suits, line, row, wanted), True)
            lead, length = wanted
            self.assert_truth(is_cycle(suits, line, row, (bool(lead), length)), False)
            self.assert_truth(is_cycle(suits, line, row, (lead, bool(length))), False)
            self.assert_truth(is_cycle(suits, line, row, (bool(lead), bool(length))), False)

    def test_more_than_400(self):
        self.assert_truth(is_cycle(SLOW, ["b"] * 398, ["a"], (398, 2)), True)
        self.assert_truth(is_cycle(SLOW, ["b"] * 399, ["a"], (399, 2)), False)
        self.assert_truth(is_cycle(SLOW, ["b"] * 450, ["a"], (450, 2)), False)

    def test_no_line_comes_again(self):
        for thing in ((0, 1), (0, 400), (1, 1), (400, 0), (None, None), None, (), [], (0, 0)):
            self.assert_truth(is_cycle(R, [], ["a"], thing), False)
            self.assert_truth(is_cycle(R, ["a"], ["a", "a", "b"], thing), False)

    def test_any_value(self):
        for thing in odd_values() + [nested(8), tuple(nested(7)), (0, nested(7)), (nested(7), 1)]:
            plain = thing.__class__ is int
            self.assert_truth(is_cycle(R, [], ["a", "b"], thing), False)
            for value in ([thing, thing], [0, thing], (0, 1, thing), (thing,), ((0, 1), thing), {0: thing}):
                self.assert_truth(is_cycle(R, [], ["a", "b"], value), False)
            self.assert_truth(is_cycle(R, [], ["a", "b"], (0, thing)), plain and thing == 1)
            self.assert_truth(is_cycle(R, [], ["a", "b"], (thing, 1)), plain and thing == 0)

    def test_other_containers(self):
        for thing in ([0, 1], {0, 1}, {0: 1}, "01", b"\x00\x01", ((0, 1),), ([0], [1]), ("0", "1"), range(2),
                      iter((0, 1))):
            self.assert_truth(is_cycle(R, [], ["a", "b"], thing), False)
        self.assert_truth(is_cycle(R, [], ["a", "b"], (0, 1)), True)


class Again(Cases):
    def test_few_rounds(self):
        for pairs, suits, line, row in list(short_cases())[::5] + list(long_cases(63))[::4]:
            lines = lines_of_rounds(pairs, line, row, 7)
            for times in range(8):
                self.assertEqual(again(suits, line, row, times), lines[times])
                self.assertEqual(again(suits, line, row, times, limit=7), lines[times])

    def test_very_many_rounds(self):
        for pairs, suits, line, row in list(short_cases())[::11] + list(long_cases(64))[::5]:
            found = first_cycle(pairs, line, row, 12)
            if found:
                lead, length = found
                lines = lines_of_rounds(pairs, line, row, lead + length)
                for times in (*range(13, 20), 400, 401, 402, 999, 10 ** 9, 10 ** 18 - 1, 10 ** 18):
                    wanted = lines[lead + (times - lead) % length]
                    self.assertEqual(again(suits, line, row, times), wanted)
                    self.assertEqual(again(suits, line, row, times, limit=lead + length), wanted)

    def test_no_rounds(self):
        for line in ([], ["a"], ["a", "c", "a"], ["a"] * 200):
            found = again(R, line, ["a", "a", "b"], 0)
            self.assertEqual(found, line)
            self.assertIsNot(found, line)
            self.assertEqual(again(R, line, ["a"], 0, limit=1), line)

    def test_both_sides_of_a_cycle(self):
        for times in (119, 120, 121, 122, 123, 399, 400, 401, 402, 10 ** 18, 10 ** 18 - 1):
            wanted = ["b"] * (120 - times) if times < 120 else ["a"] * (times % 2)
            self.assertEqual(again(SLOW, ["b"] * 120, ["a"], times), wanted)
            self.assertEqual(again(SLOW, ["b"] * 120, ["a"], times, limit=122), wanted)

    def test_too_many_just_where_both_hold(self):
        # The cycle is (5, 2), so a limit of 7 is enough for it.
        line = ["b"] * 5
        for limit in range(1, 10):
            for times in (0, 1, 4, 5, 6, 7, 8, 9, 10, 11, 10 ** 18):
                if times > limit and limit < 7:
                    self.assertEqual(self.raised_by_limit(again, limit, SLOW, line, ["a"], times), limit)
                else:
                    wanted = ["b"] * (5 - times) if times < 5 else ["a"] * ((times - 5) % 2)
                    self.assertEqual(again(SLOW, line, ["a"], times, limit=limit), wanted)

    def test_lines_that_grow(self):
        self.assertEqual(again(R, [], ["a"], 400), ["a"] * 400)
        self.assertEqual(again(R, ["a"] * 200, ["a"] * 40, 400), ["a"] * 16200)
        self.assertEqual(again(R, ["c"], ["a", "a", "b"], 400), ["a"] * 401)
        self.assertEqual(again(R, [], ["a", "c"] * 20, 400), ["a"] * 8000)
        self.assertEqual(again(R, [], ["a"], 9, limit=9), ["a"] * 9)
        self.assertEqual(repr(self.raised(TooMany, again, R, [], ["a"], 401).limit), "400")
        self.assertEqual(repr(self.raised(TooMany, again, R, [], ["a"], 10 ** 18).limit), "400")
        self.assertEqual(self.raised_by_limit(again, 9, R, [], ["a"], 10), 9)
        self.assertEqual(self.raised_by_limit(again, 1, R, [], ["a"], 2), 1)


class AllOrNone(unittest.TestCase):
    def does_come_again(self, suits, line, row):
        try:
            cycle(suits, line, row)
        except TooMany:
            return False
        return True

    def test_from_every_line_or_from_none(self):
        for kinds, pairs in model.small_relations():
            suits = Suits(kinds, pairs)
            lines = model.lines_up_to(kinds, pairs, 3)
            for row in all_lists_up_to(kinds, 3)[::2]:
                self.assertEqual(len({self.does_come_again(suits, line, row) for line in lines}), 1)

    def test_otherwise_the_length_grows(self):
        for pairs, suits, line, row in list(short_cases())[::3] + list(long_cases(65, (9,))):
            if not self.does_come_again(suits, line, row):
                early, late = len(again(suits, line, row, 30)), len(again(suits, line, row, 90))
                self.assertGreaterEqual(late, early + 60 * crowd(suits, row)[0])
                self.assertGreater(late, early)

    def test_a_crowd_never_comes_back(self):
        for pairs, suits, line, row in list(short_cases()) + list(long_cases(66)):
            if crowd(suits, row)[0] > 0:
                self.assertFalse(self.does_come_again(suits, line, row))
                lines = lines_of_rounds(pairs, line, row, 5)
                self.assertEqual(len({tuple(one) for one in lines}), 6)


if __name__ == "__main__":
    unittest.main()
