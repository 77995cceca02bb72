"""[50], [2], [8]: distances, longest common parts, and the course of a distance."""

import itertools
import random
import unittest

from suitedpairs.distances import common, course, distance, is_common
from suitedpairs.suits import Suits
from tests import model
from tests.values import Keeping, all_lists_up_to, nested, odd_values

R = Suits(["a", "b", "c"], [("a", "b"), ("b", "c"), ("c", "c")])
SHORT = all_lists_up_to(["a", "b", "c"], 3) + all_lists_up_to(["a", "b"], 4)[15:]


def parts(line):
    """All parts of a line, by the ascending lists of their indexes."""
    return [[line[at] for at in places] for places in model.subsets(list(range(len(line))))]


def longest_by_parts(one, other):
    """The length of a longest common part of two short lines: all parts of both are made."""
    known = parts(other)
    return max(len(part) for part in parts(one) if part in known)


def longest_by_bits(one, other):
    """The length of a longest common part, for long lines: a bit for each person of the first line."""
    whole = (1 << len(one)) - 1
    left = whole
    for kind in other:
        fit = sum(1 << at for at, person in enumerate(one) if person == kind)
        left = ((left + (left & fit)) | (left & ~fit)) & whole
    return len(one) - left.bit_count()


def is_common_part(one, other, thing):
    """Whether a list of tuples of two integers is a common part, by the words of the document."""
    inside = all(0 <= at < len(one) and 0 <= to < len(other) and one[at] == other[to] for at, to in thing)
    return inside and all(thing[at][0] < thing[at + 1][0] and thing[at][1] < thing[at + 1][1]
                          for at in range(len(thing) - 1))


def made_lines(seed, lengths):
    """Pairs of lines of relations, of these lengths at most."""
    chance = random.Random(seed)
    for kinds, pairs in model.small_relations() + model.large_relations():
        for one, other in lengths:
            yield model.random_line(chance, kinds, pairs, one), model.random_line(chance, kinds, pairs, other)


LONG = list(made_lines(31, [(12, 12), (40, 25)])) + list(made_lines(32, [(200, 200)]))[::4]


class Distance(unittest.TestCase):
    def test_short_lines_by_all_parts(self):
        for one, other in itertools.product(SHORT, SHORT):
            self.assertEqual(distance(one, other), len(one) + len(other) - 2 * longest_by_parts(one, other))

    def test_the_fewest_taken_out_and_put_in(self):
        # Whoever is not taken out stays in both lines; so all ways to take out of both are tried.
        chance = random.Random(33)
        for _ in range(60):
            one, other = (model.random_row(chance, ["a", "b", "c"], chance.randint(4, 7)) for _ in range(2))
            ways = [len(one) + len(other) - 2 * len(part) for part in parts(one) if part in parts(other)]
            self.assertEqual(distance(one, other), min(ways))

    def test_long_lines(self):
        for one, other in LONG:
            self.assertEqual(distance(one, other), len(one) + len(other) - 2 * longest_by_bits(one, other))

    def test_200_persons_of_many_kinds(self):
        chance = random.Random(34)
        for kinds in (["a", "b"], model.LETTERS[:3], model.LETTERS, ["ab", "a", "b", "abcdefgh"]):
            one, other = model.random_row(chance, kinds, 200), model.random_row(chance, kinds, 200)
            self.assertEqual(distance(one, other), 400 - 2 * longest_by_bits(one, other))
            self.assertEqual(distance(one, one), 0)
            self.assertEqual(distance(one, one[::-1]), 400 - 2 * longest_by_bits(one, one[::-1]))

    def test_both_directions(self):
        for one, other in LONG + list(itertools.combinations(SHORT, 2)):
            self.assertEqual(distance(one, other), distance(other, one))

    def test_0_just_for_equal_lines(self):
        for one, other in LONG + list(itertools.product(SHORT, SHORT)):
            self.assertEqual(distance(one, other) == 0, one == other)
            self.assertEqual(distance(one, list(one)), 0)

    def test_no_way_round_is_shorter(self):
        chance = random.Random(35)
        for _ in range(300):
            one, other, third = chance.choices(SHORT, k=3)
            self.assertLessEqual(distance(one, third), distance(one, other) + distance(other, third))

    def test_edges(self):
        self.assertEqual(repr(distance([], [])), "0")
        self.assertEqual([distance([], ["a"] * 200), distance(["a"] * 200, [])], [200, 200])
        self.assertEqual([distance(["a"], ["b"]), distance(["a"] * 200, ["b"] * 200)], [2, 400])
        self.assertEqual(distance(["a"] * 200, ["a"] * 199), 1)
        self.assertEqual(distance(["a"] * 199 + ["b"], ["b"] + ["a"] * 199), 2)
        self.assertEqual(distance(["ab", "a"], ["a", "ab"]), 2)
        self.assertEqual(distance(["a"] * 210, ["a"] * 205), 5)


class Common(unittest.TestCase):
    def assert_longest(self, one, other, many):
        found = common(one, other)
        self.assertIs(found.__class__, list)
        for item in found:
            self.assertEqual([part.__class__ for part in (item, *item)], [tuple, int, int])
        self.assertTrue(is_common_part(one, other, found))
        self.assertEqual(len(found), many)
        self.assertEqual(distance(one, other), len(one) + len(other) - 2 * len(found))
        self.assertIs(is_common(one, other, found), True)

    def test_short_lines(self):
        for one, other in itertools.product(SHORT, SHORT):
            self.assert_longest(one, other, longest_by_parts(one, other))

    def test_long_lines(self):
        for one, other in LONG:
            self.assert_longest(one, other, longest_by_bits(one, other))

    def test_edges(self):
        for one, other in (([], []), ([], ["a"]), (["a"], []), (["a"], ["b"]), (["a"] * 200, ["b"] * 200)):
            self.assertEqual(common(one, other), [])
        self.assertEqual(common(["a"] * 200, ["a"] * 200), [(at, at) for at in range(200)])
        self.assertEqual(common(["b", "a"], ["c", "c", "a"]), [(1, 2)])


class IsCommon(Keeping, unittest.TestCase):
    def test_all_short_things(self):
        for one, other in ((["a", "c"], ["c", "a"]), (["a", "c", "a"], ["a", "a"]), (["c", "a"], ["c", "a"]),
                           (["a"], ["b"]), ([], ["a"]), ([], []), (["a", "a"], ["a"])):
            items = list(itertools.product(range(-1, len(one) + 1), range(-1, len(other) + 1)))
            longest = longest_by_parts(one, other)
            for thing in all_lists_up_to(items, 2) + [[(0, 0), (1, 0), (2, 1)]]:
                wanted = is_common_part(one, other, thing) and len(thing) == longest
                self.assert_truth(is_common(one, other, thing), wanted)

    def test_all_longest_parts(self):
        for one, other in itertools.product(SHORT[::3], SHORT[::3]):
            fit = [(at, to) for at in range(len(one)) for to in range(len(other)) if one[at] == other[to]]
            longest = longest_by_parts(one, other)
            for thing in itertools.combinations(fit, longest):
                self.assert_truth(is_common(one, other, list(thing)), is_common_part(one, other, thing))

    def assert_changes_are_refused(self, one, other):
        found = common(one, other)
        self.assert_truth(is_common(one, other, found), True)
        for at, (first, second) in enumerate(found):
            rest = found[:at], found[at + 1:]
            self.assert_truth(is_common(one, other, rest[0] + rest[1]), False)
            self.assert_truth(is_common(one, other, found[:at + 1] + found[at:]), False)
            for odd in ([first, second], (first,), (first, second, second), (str(first), second), (None, second),
                        (first, len(other)), (len(one), second), (first - len(one), second),
                        (first, second - len(other)), (10 ** 39, second), (first, -(10 ** 39)), first,
                        (first, [second]), ((first, second),), None):
                self.assert_truth(is_common(one, other, [*rest[0], odd, *rest[1]]), False)
        for at in range(len(found) - 1):
            turned = found[:at] + [found[at + 1], found[at]] + found[at + 2:]
            self.assert_truth(is_common(one, other, turned), False)
        if found:
            self.assert_truth(is_common(one, other, found + [found[-1]]), False)
            self.assert_truth(is_common(one, other, found + [(0, 0)]), False)
            self.assert_truth(is_common(one, other, []), False)
        if len(found) > 1:
            self.assert_truth(is_common(one, other, found[::-1]), False)

    def test_changes(self):
        for one, other in LONG[::6] + list(itertools.product(SHORT[::5], SHORT[::5])):
            self.assert_changes_are_refused(one, other)

    def test_exchanged_indexes(self):
        one, other = ["a", "c", "a"], ["c", "a", "a"]
        for thing in ([(0, 1), (2, 2)], [(1, 0), (2, 1)], [(1, 0), (2, 2)]):
            self.assert_truth(is_common(one, other, thing), True)
            self.assert_truth(is_common(other, one, [(to, at) for at, to in thing]), True)
        self.assert_truth(is_common(one, other, [(0, 1), (1, 2)]), False)
        self.assert_truth(is_common(["a", "b", "c"], ["c", "a", "b"], [(0, 1), (1, 2)]), True)
        self.assert_truth(is_common(["a", "b", "c"], ["c", "a", "b"], [(1, 0), (2, 1)]), False)
        self.assert_truth(is_common(["a", "b", "c"], ["c", "a", "b"], [(0, 2), (1, 1)]), False)
        self.assert_truth(is_common(one, other, [(0, 1), (2, 1)]), False)
        self.assert_truth(is_common(one, other, [(0, 1), (0, 2)]), False)
        self.assert_truth(is_common(one, other, [(0, 2), (2, 1)]), False)
        self.assert_truth(is_common(one, other, [(1, 0), (2, 0)]), False)

    def test_truths_are_no_indexes(self):
        line = ["a", "a"]
        self.assert_truth(is_common(line, line, [(0, 0), (1, 1)]), True)
        for thing in ([(False, 0), (1, 1)], [(0, False), (1, 1)], [(0, 0), (True, 1)], [(0, 0), (1, True)],
                      [(False, False), (True, True)], [True, False]):
            self.assert_truth(is_common(line, line, thing), False)
        self.assert_truth(is_common(["a"], ["a"], [(False, False)]), False)
        self.assert_truth(is_common(["a"], ["a"], [(0, 0)]), True)

    def test_any_value(self):
        for thing in odd_values() + [nested(7), [nested(6)], [tuple(nested(6))], [(nested(5), 0)], [(0, nested(5))]]:
            for one, other in (([], []), (["a"], ["a"]), (["a", "c"], ["a", "b"]), (["b"], ["a"])):
                # The empty list is the longest common part of lines without a kind in common.
                empty = thing == [] and thing.__class__ is list
                self.assert_truth(is_common(one, other, thing), empty and longest_by_parts(one, other) == 0)
                self.assert_truth(is_common(one, other, [thing]), False)
                self.assert_truth(is_common(one, other, [(0, 0), thing]), False)
            plain = thing.__class__ is int
            self.assert_truth(is_common(["a"], ["a"], [(thing, 0)]), plain and thing == 0)
            self.assert_truth(is_common(["b", "a"], ["a", "b"], [(0, thing)]), plain and thing == 1)

    def test_other_containers(self):
        for thing in (((0, 0),), {(0, 0)}, {0: 0}, {(0, 0): 1}, (0, 0), [0, 0], [[0, 0]], "00", ["00"], [b"\x00\x00"],
                      [{0: 0}], [{0}], [range(0, 1)], range(1), b"\x00", None, 0, True):
            self.assert_truth(is_common(["a"], ["a"], thing), False)
        for thing in ((), {}, set(), "", b"", None, False, 0, range(0), iter([])):
            self.assert_truth(is_common([], [], thing), False)
        self.assert_truth(is_common([], [], []), True)
        self.assert_truth(is_common(["a"], ["b"], []), True)
        self.assert_truth(is_common(["a"], ["a"], []), False)


class Course(unittest.TestCase):
    def assert_course(self, suits, pairs, one, other, row):
        lines = zip([one] + model.moments(pairs, one, row), [other] + model.moments(pairs, other, row))
        wanted = [len(now) + len(then) - 2 * longest_by_bits(now, then) for now, then in lines]
        found = course(suits, one, other, row)
        self.assertEqual(found, wanted)
        self.assertEqual(len(found), len(row) + 1)
        self.assertEqual(found, sorted(found, reverse=True), "it rises")

    def test_short_ones(self):
        for kinds, pairs in model.small_relations():
            suits = Suits(kinds, pairs)
            lines = model.lines_up_to(kinds, pairs, 2)
            rows = all_lists_up_to(kinds, 3)
            for at, (one, other) in enumerate(itertools.product(lines, lines)):
                for row in rows[at % 4::4]:
                    self.assert_course(suits, pairs, one, other, row)

    def test_long_ones(self):
        chance = random.Random(36)
        for kinds, pairs in model.small_relations() + model.large_relations():
            suits = Suits(kinds, pairs)
            for most, many in ((8, 12), (60, 24)):
                one, other = (model.random_line(chance, kinds, pairs, most) for _ in range(2))
                self.assert_course(suits, pairs, one, other, model.random_row(chance, kinds, many))

    def test_edges(self):
        self.assertEqual(course(R, [], [], []), [0])
        self.assertEqual(course(R, ["a"], [], []), [1])
        self.assertEqual(course(R, ["a", "c"], ["a", "c"], ["b", "c", "a"]), [0, 0, 0, 0])
        self.assertEqual(course(R, ["a"], ["b"], ["a"]), [2, 2])
        self.assertEqual(course(R, ["a"], ["b"], ["c", "b"]), [2, 2, 2])
        self.assertEqual(course(R, ["a"] * 60, [], ["b"] * 24), [60] * 25)
        # Each second newcomer takes the one before it out of the first line, each one takes one out of the second line.
        self.assertEqual(course(R, ["a"] * 60, ["b"] * 60, ["c"] * 24), [120 + at % 2 - at for at in range(25)])


if __name__ == "__main__":
    unittest.main()
