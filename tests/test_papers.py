"""[40], [6]: links, right links and faults."""

import random
import unittest

from suitedpairs.pairing import partners
from suitedpairs.papers import are_links, are_right, fault
from suitedpairs.suits import Suits
from tests import model
from tests.values import Keeping, all_lists_up_to, nested, odd_values

R = Suits(["a", "b", "c"], [("a", "b"), ("b", "c"), ("c", "c")])


def all_links(many):
    """All links of a row of so many newcomers."""
    found = [[]]
    for index in range(many):
        wider = []
        for links in found:
            if index in links:
                wider.append(links + [links.index(index)])
            else:
                free = [other for other in range(index + 1, many) if other not in links]
                wider.extend(links + [other] for other in [None, *free])
        found = wider
    return found


def do_sentences_hold(pairs, row, links):
    """Whether the sentences about two places each of [40] hold."""
    def is_later(item, index):
        return item is None or item > index

    for index, other in enumerate(links):
        if other is not None and not model.do_suit(pairs, row[index], row[other]):
            return False
    opening = [index for index, item in enumerate(links) if is_later(item, index)]
    for at, one in enumerate(opening):
        for other in opening[at + 1:]:
            if is_later(links[one], other) and model.do_suit(pairs, row[one], row[other]):
                return False
            link = links[other]
            if link is not None and is_later(links[one], link) and model.do_suit(pairs, row[one], row[link]):
                return False
    return True


def first_fault(pairs, row, links):
    """The fault, newcomer by newcomer: each one is asked while all before it do as the links say."""
    waiting = []
    for index, kind in enumerate(row):
        fit = [other for other in waiting if model.do_suit(pairs, row[other], kind)]
        should = fit[0] if fit else -1
        if should != (links[index] if links[index] in waiting else -1):
            return index, should
        if links[index] in waiting:
            waiting.remove(links[index])
        else:
            waiting.append(index)
    return None


class Links(Keeping, unittest.TestCase):
    def test_all_short_lists(self):
        for many in range(5):
            row = (["a", "b", "c"] * 2)[:many]
            right = all_links(many)
            for thing in all_lists_up_to([None, -1, *range(many + 1)], many):
                self.assert_truth(are_links(row, thing), thing in right)

    def test_all_links(self):
        self.assertEqual([len(all_links(many)) for many in range(7)], [1, 1, 2, 4, 10, 26, 76])
        for many in range(7):
            for links in all_links(many):
                self.assert_truth(are_links(["a"] * many, links), True)

    def test_truths_are_no_indexes(self):
        row = ["a", "b"]
        for thing in ([True, False], [1, False], [True, 0], [None, True], [None, False], [False, None]):
            self.assert_truth(are_links(row, thing), False)
            self.assert_truth(are_right(R, row, thing), False)
        self.assert_truth(are_links(row, [1, 0]), True)
        self.assert_truth(are_right(R, row, [1, 0]), True)

    def test_items_out_of_range(self):
        for many in (1, 2, 3, 10):
            row = ["a"] * many
            for wrong in (-1, -2, -many, many, many + 1, 10 ** 39, -(10 ** 39)):
                for at in range(many):
                    thing = [None] * many
                    thing[at] = wrong
                    self.assert_truth(are_links(row, thing), False)
                    self.assert_truth(are_right(R, row, thing), False)

    def test_negative_indexes_that_point_back(self):
        for thing in ([-1, -2], [1, -2], [-1, 0], [-2, -1]):
            self.assert_truth(are_links(["a", "b"], thing), False)
            self.assert_truth(are_right(R, ["a", "b"], thing), False)

    def test_an_item_that_is_its_own_index(self):
        for many in (1, 2, 5):
            for at in range(many):
                thing = [None] * many
                thing[at] = at
                self.assert_truth(are_links(["c"] * many, thing), False)
                self.assert_truth(are_right(R, ["c"] * many, thing), False)

    def test_one_sided_links(self):
        for thing in ([1, None], [None, 0], [1, 2, 0], [1, 2, 1], [1, 0, 0], [2, 0, 0], [3, 0, None, 0]):
            self.assert_truth(are_links(["a"] * len(thing), thing), False)

    def test_a_wrong_number_of_items(self):
        for many in range(6):
            for length in (0, 1, 2, 3, 4, 5, 6, 199, 200, 201, 24000):
                self.assert_truth(are_links(["a"] * many, [None] * length), many == length)
        self.assert_truth(are_links(["a"] * 200, [None] * 200), True)
        self.assert_truth(are_links(["a", "b"], [1, 0, None]), False)
        self.assert_truth(are_links(["a", "b", "a"], [1, 0]), False)

    def test_any_value(self):
        for thing in odd_values():
            for row in ([], ["a", "b"], ["a", "b", "c"]):
                self.assert_truth(are_links(row, thing), False)
                self.assert_truth(are_right(R, row, thing), False)
            self.assert_truth(are_links(["a"], [thing]), thing is None)
            self.assert_truth(are_links(["a", "b", "a"], [1, 0, thing]), thing is None)
            self.assert_truth(are_right(R, ["a", "b", "a"], [1, 0, thing]), thing is None)
            plain = thing is not True and thing is not False and thing == 1
            self.assert_truth(are_links(["a", "b"], [thing, 0]), plain)
            self.assert_truth(are_right(R, ["a", "b"], [thing, 0]), plain)

    def test_other_containers(self):
        for row in ([], ["a"], ["a", "b"]):
            for thing in ((), (None,), (None, None), (1, 0), {}, {0: 1, 1: 0}, {0, 1}, "", "ab", "10", b"", b"\x01\x00",
                          range(0), None, 0, [[None]], [(None,)], [[1, 0]], nested(8), [nested(7), None], ["1", "0"]):
                self.assert_truth(are_links(row, thing), False)
                self.assert_truth(are_right(R, row, thing), False)


class Right(Keeping, unittest.TestCase):
    def assert_judged(self, suits, pairs, row, links):
        right = links == model.partners(pairs, [], row)
        self.assertEqual(do_sentences_hold(pairs, row, links), right)
        self.assert_truth(are_right(suits, row, links), right)
        self.assertEqual(repr(fault(suits, row, links)), repr(first_fault(pairs, row, links)))
        self.assertEqual(fault(suits, row, links) is None, right)

    def test_all_short_rows(self):
        for kinds, pairs in model.small_relations():
            suits = Suits(kinds, pairs)
            for row in all_lists_up_to(kinds, 3):
                for links in all_links(len(row)):
                    self.assert_judged(suits, pairs, row, links)

    def test_all_links_of_some_rows(self):
        chance = random.Random(14)
        for kinds, pairs in model.small_relations() + model.large_relations(2):
            suits = Suits(kinds, pairs)
            for length in (4, 5, 6):
                row = model.random_row(chance, kinds, length)
                for links in all_links(length):
                    self.assert_judged(suits, pairs, row, links)

    def test_long_rows_with_one_change(self):
        chance = random.Random(15)
        for kinds, pairs in model.small_relations()[10:] + model.large_relations():
            suits = Suits(kinds, pairs)
            row = model.random_row(chance, kinds, 30)
            right = partners(suits, [], row)
            self.assert_judged(suits, pairs, row, right)
            for _ in range(6):
                links = changed(chance, right)
                self.assert_judged(suits, pairs, row, links)

    def test_the_longest(self):
        row = ["a"] * 100 + ["b"] * 100
        right = list(range(100, 200)) + list(range(100))
        self.assert_truth(are_right(R, row, right), True)
        self.assertIsNone(fault(R, row, right))
        swapped = right[:98] + [199, 198] + right[100:198] + [99, 98]
        self.assert_truth(are_links(row, swapped), True)
        self.assert_truth(are_right(R, row, swapped), False)
        self.assertEqual(fault(R, row, swapped), (198, 98))
        self.assertEqual(fault(R, row, [None] * 200), (100, 0))
        self.assertEqual(fault(R, ["a"] * 200, [None] * 198 + [199, 198]), (199, -1))


class Faults(unittest.TestCase):
    def test_none(self):
        self.assertIsNone(fault(R, [], []))
        self.assertIsNone(fault(R, ["a"], [None]))
        self.assertIsNone(fault(R, ["a", "b"], [1, 0]))

    def test_it_should_have_joined(self):
        self.assertEqual(repr(fault(R, ["a", "a"], [1, 0])), "(1, -1)")
        self.assertEqual(repr(fault(R, ["a", "c", "a"], [None, 2, 1])), "(2, -1)")

    def test_it_should_have_left(self):
        self.assertEqual(repr(fault(R, ["a", "b"], [None, None])), "(1, 0)")
        self.assertEqual(repr(fault(R, ["c", "b", "b"], [2, None, 0])), "(1, 0)")

    def test_it_should_have_left_with_another_one(self):
        self.assertEqual(fault(R, ["a", "a", "b"], [None, 2, 1]), (2, 0))
        self.assertEqual(fault(R, ["a", "c", "b", "c"], [None, 2, 1, None]), (2, 0))

    def test_the_least_index(self):
        self.assertEqual(fault(R, ["a", "b", "a", "b"], [None, None, None, None]), (1, 0))
        self.assertEqual(fault(R, ["a", "b", "a", "b"], [1, 0, None, None]), (3, 2))
        self.assertEqual(fault(R, ["a", "b", "a", "b"], [3, 2, 1, 0]), (1, 0))


def changed(chance, right):
    """Links that differ from the right ones at one pair or at two of them."""
    links = list(right)
    one, other = chance.sample(range(len(links)), 2)
    for index in (one, other):
        if links[index] is not None:
            links[links[index]] = None
            links[index] = None
    if chance.random() < 0.7:
        links[one], links[other] = other, one
    return links


if __name__ == "__main__":
    unittest.main()
