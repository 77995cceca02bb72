"""[51], [8]: the one difference that a newcomer more makes, or a person who gives up, as long as persons come."""

import random
import unittest

from suitedpairs.suits import Suits
from suitedpairs.trails import given_up, trail
from tests import model
from tests.values import all_lists_up_to

R = Suits(["a", "b", "c"], [("a", "b"), ("b", "c"), ("c", "c")])


def told_moments(pairs, line, row, names):
    """The names of those who wait, at the beginning and after each newcomer; each person of the run has a name."""
    waiting = list(range(len(line)))
    return [[names[number] for number in now] for now in [waiting, *model.run(pairs, line, row)[0]]]


def without(persons, one):
    """A list without one of its items."""
    return [person for person in persons if person != one]


class Trails(unittest.TestCase):
    def assert_told(self, found, usual, changed):
        """At each moment exactly the told person more or fewer waits, and all others wait in the same order."""
        self.assertEqual(len(found), len(usual))
        self.assertEqual(len(found), len(changed))
        for item, now, then in zip(found, usual, changed):
            self.assertEqual([part.__class__ for part in (item, *item)], [tuple, int, int])
            side, number = item
            self.assertIn(side, (1, -1))
            more, fewer = (then, now) if side == 1 else (now, then)
            self.assertEqual(len(more), len(fewer) + 1)
            self.assertIn(number, more)
            self.assertEqual(without(more, number), fewer)

    def assert_trail(self, suits, pairs, line, row, at, kind):
        here = len(line) + at
        names = list(range(len(line) + len(row)))
        usual = told_moments(pairs, line, row, names)[at:]
        wider = row[:at] + [kind] + row[at:]
        changed = told_moments(pairs, line, wider, names[:here] + [-1] + names[here:])[at + 1:]
        found = trail(suits, line, row, at, kind)
        self.assertEqual(len(found), len(row) - at + 1)
        self.assert_told(found, usual, changed)

    def assert_given_up(self, suits, pairs, line, row, place):
        names = list(range(len(line) + len(row)))
        usual = told_moments(pairs, line, row, names)
        changed = told_moments(pairs, without_place(line, place), row, without_place(names, place))
        found = given_up(suits, line, row, place)
        self.assertEqual(len(found), len(row) + 1)
        self.assertEqual(found[0], (-1, place))
        self.assert_told(found, usual, changed)


def without_place(items, place):
    """A list without the item at a place."""
    return items[:place] + items[place + 1:]


class Short(Trails):
    def test_trail(self):
        for kinds, pairs in model.small_relations():
            suits = Suits(kinds, pairs)
            for line in model.lines_up_to(kinds, pairs, 2):
                for row in all_lists_up_to(kinds, 2):
                    for at in range(len(row) + 1):
                        for kind in kinds:
                            self.assert_trail(suits, pairs, line, row, at, kind)

    def test_given_up(self):
        for kinds, pairs in model.small_relations():
            suits = Suits(kinds, pairs)
            for line in model.lines_up_to(kinds, pairs, 3):
                for row in all_lists_up_to(kinds, 2):
                    for place in range(len(line)):
                        self.assert_given_up(suits, pairs, line, row, place)


class Long(Trails):
    def made(self, seed, lengths):
        chance = random.Random(seed)
        for kinds, pairs in model.small_relations()[5::4] + model.large_relations():
            for most, many in lengths:
                line = model.random_line(chance, kinds, pairs, most)
                yield chance, Suits(kinds, pairs), pairs, line, model.random_row(chance, kinds, many)

    def test_trail_for_each_place_and_kind(self):
        for _, suits, pairs, line, row in self.made(41, [(0, 12), (10, 12)]):
            for at in range(len(row) + 1):
                for kind in suits.kinds():
                    self.assert_trail(suits, pairs, line, row, at, kind)

    def test_given_up_for_each_person(self):
        for _, suits, pairs, line, row in self.made(42, [(5, 10), (20, 20)]):
            for place in range(len(line)):
                self.assert_given_up(suits, pairs, line, row, place)

    def test_the_longest(self):
        for chance, suits, pairs, line, row in self.made(43, [(200, 60)]):
            for at in (0, 1, 30, 59, 60):
                self.assert_trail(suits, pairs, line, row, at, chance.choice(suits.kinds()))
            for place in {0, len(line) // 2, len(line) - 1} & set(range(len(line))):
                self.assert_given_up(suits, pairs, line, row, place)
        line, row = ["a"] * 200, ["b"] * 60
        for at in (0, 30, 60):
            for kind in ("a", "b", "c"):
                self.assert_trail(R, R.pairs(), line, row, at, kind)
        for place in (0, 1, 59, 60, 61, 199):
            self.assert_given_up(R, R.pairs(), line, row, place)


class Edges(unittest.TestCase):
    def test_the_newcomer_more_has_the_number_minus_1(self):
        self.assertEqual(trail(R, [], [], 0, "a"), [(1, -1)])
        self.assertEqual(trail(R, ["a"], [], 0, "a"), [(1, -1)])
        self.assertEqual(trail(R, ["a"] * 200, [], 0, "c"), [(1, -1)])
        self.assertEqual(trail(R, [], ["a", "a"], 2, "a"), [(1, -1)])
        self.assertEqual(trail(R, [], ["a", "a"], 0, "a"), [(1, -1)] * 3)
        self.assertEqual(trail(R, [], ["a", "a"], 1, "c"), [(1, -1)] * 2)

    def test_the_newcomer_more_leaves_at_once(self):
        self.assertEqual(trail(R, ["a"], [], 0, "b"), [(-1, 0)])
        self.assertEqual(trail(R, ["c", "a", "a"], [], 0, "b"), [(-1, 0)])
        self.assertEqual(trail(R, ["a", "a"], ["b"], 1, "b"), [(-1, 1)])
        self.assertEqual(trail(R, ["a", "a"], ["b"], 0, "b"), [(-1, 0), (-1, 1)])
        self.assertEqual(trail(R, [], ["a"], 1, "b"), [(-1, 0)])

    def test_the_newcomer_more_is_taken(self):
        self.assertEqual(trail(R, [], ["b"], 0, "a"), [(1, -1), (-1, 0)])
        self.assertEqual(trail(R, ["a"], ["b", "b"], 0, "a"), [(1, -1), (1, -1), (-1, 2)])

    def test_both_ends_of_a_row(self):
        row = ["a", "b", "c", "c", "a"]
        self.assertEqual(len(trail(R, ["a"], row, 0, "a")), 6)
        self.assertEqual(len(trail(R, ["a"], row, 5, "a")), 1)
        self.assertEqual(trail(R, ["a"], row, 5, "b"), [(-1, 1)])

    def test_given_up_without_newcomers(self):
        self.assertEqual(given_up(R, ["a"], [], 0), [(-1, 0)])
        self.assertEqual(given_up(R, ["a", "c", "a"], [], 2), [(-1, 2)])
        self.assertEqual(given_up(R, ["a"] * 200, [], 199), [(-1, 199)])

    def test_given_up_and_nobody_feels_it(self):
        self.assertEqual(given_up(R, ["a", "a"], ["b"], 1), [(-1, 1), (-1, 1)])
        self.assertEqual(given_up(R, ["a", "c"], ["c", "a", "a"], 0), [(-1, 0)] * 4)
        free = Suits(["a"], [])
        self.assertEqual(given_up(free, ["a", "a"], ["a", "a"], 0), [(-1, 0)] * 3)

    def test_a_newcomer_stays_who_would_have_left(self):
        self.assertEqual(given_up(R, ["a"], ["b"], 0), [(-1, 0), (1, 1)])
        self.assertEqual(given_up(R, ["a"], ["b", "a"], 0), [(-1, 0), (1, 1), (-1, 2)])
        self.assertEqual(given_up(R, ["c"], ["c"], 0), [(-1, 0), (1, 1)])


if __name__ == "__main__":
    unittest.main()
