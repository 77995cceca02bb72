"""[80], [11]: who can be made to leave while the kept ones stay, and who is stuck."""

import itertools
import random
import unittest

from suitedpairs.stuck import are_stuck, leave
from suitedpairs.suits import Suits
from tests import model
from tests.values import Keeping, all_lists_up_to, nested, odd_values

R = Suits(["a", "b", "c"], [("a", "b"), ("b", "c"), ("c", "c")])


def is_stuck(kinds, pairs, line, kept, persons):
    """Whether a list of indexes is stuck, by the words of the document."""
    if not persons or persons != sorted(set(persons)) or any(person in kept for person in persons):
        return False
    for person in persons:
        for kind in kinds:
            if model.do_suit(pairs, kind, line[person]):
                if not any(other < person and model.do_suit(pairs, kind, line[other]) for other in kept + persons):
                    return False
    return True


def greatest(kinds, pairs, line, kept):
    """The union of all stuck sets of a short line."""
    others = [person for person in range(len(line)) if person not in kept]
    stuck = [persons for persons in model.subsets(others) if is_stuck(kinds, pairs, line, kept, persons)]
    return sorted({person for persons in stuck for person in persons})


def can_all_leave(kinds, pairs, line, kept, most):
    """Whether after some row of at most so many newcomers all others of the line have left and the kept ones stay."""
    others = [person for person in range(len(line)) if person not in kept]
    for row in all_lists_up_to(kinds, most):
        partners = model.partners(pairs, line, row)
        if all(partners[person] is None for person in kept) and None not in [partners[person] for person in others]:
            return True
    return False


def short_cases(most):
    """Small relations with short lines and all sets of kept persons."""
    for kinds, pairs in model.small_relations():
        for line in model.lines_up_to(kinds, pairs, most):
            for kept in model.subsets(list(range(len(line)))):
                yield kinds, pairs, Suits(kinds, pairs), line, kept


def long_cases(seed, lengths=(8, 30)):
    """Relations with lines, and kept persons: none, few, all but few, all."""
    chance = random.Random(seed)
    for kinds, pairs in model.small_relations() + model.large_relations(5):
        for most in lengths:
            line = model.random_line(chance, kinds, pairs, most)
            places = range(len(line))
            few = sorted(chance.sample(places, min(len(line), 2)))
            late = list(places[len(line) - len(line) // 3:])
            for kept in ([], few, late, [place for place in places if place not in few], list(places)):
                yield kinds, pairs, Suits(kinds, pairs), line, kept


class Leave(Keeping, unittest.TestCase):
    def assert_leave(self, kinds, pairs, suits, line, kept):
        """Either the row does what it should, or the persons are stuck; returns what was found."""
        word, found = leave(suits, line, kept)
        others = [person for person in range(len(line)) if person not in kept]
        if word == "row":
            self.assertEqual(len(found), len(others))
            self.assertTrue(set(found) <= set(kinds))
            partners = model.partners(pairs, line, found)
            self.assertEqual([person for person in range(len(line)) if partners[person] is None], kept)
            self.assertEqual(model.after(pairs, line, found), [line[person] for person in kept])
        else:
            self.assertEqual(word, "stuck")
            self.assertTrue(is_stuck(kinds, pairs, line, kept, found))
            self.assertTrue(set(found) <= set(others))
            self.assert_truth(are_stuck(suits, line, kept, found), True)
        return word, found

    def test_short_lines(self):
        words = []
        for kinds, pairs, suits, line, kept in short_cases(4):
            word, found = self.assert_leave(kinds, pairs, suits, line, kept)
            wanted = greatest(kinds, pairs, line, kept)
            self.assertEqual(word, "stuck" if wanted else "row")
            if wanted:
                self.assertEqual(found, wanted)
            words.append(word)
        self.assertGreater(min(words.count("row"), words.count("stuck")), 500)

    def test_against_all_rows(self):
        for kinds, pairs, suits, line, kept in list(short_cases(3))[::4]:
            word = leave(suits, line, kept)[0]
            most = len(line) - len(kept) + (0 if word == "row" else 1)
            self.assertEqual(can_all_leave(kinds, pairs, line, kept, most), word == "row")

    def test_longer_lines(self):
        words = []
        for kinds, pairs, suits, line, kept in long_cases(92):
            word, found = self.assert_leave(kinds, pairs, suits, line, kept)
            words.append(word)
            if len(line) - len(kept) <= 8:
                wanted = greatest(kinds, pairs, line, kept)
                self.assertEqual((word, found if word == "stuck" else []), ("stuck", wanted) if wanted else ("row", []))
        self.assertGreater(min(words.count("row"), words.count("stuck")), 100)

    def test_the_longest_lines(self):
        for case in list(long_cases(93, (200,)))[::2]:
            self.assert_leave(*case)

    def test_the_stuck_set_is_the_greatest(self):
        # One person more, any of those who left, and it is not stuck; and so on, until all were asked.
        for kinds, pairs, suits, line, kept in list(long_cases(94, (12,)))[::2]:
            word, found = leave(suits, line, kept)
            if word == "stuck":
                rest = [person for person in range(len(line)) if person not in kept and person not in found]
                for more in rest:
                    self.assertFalse(is_stuck(kinds, pairs, line, kept, sorted(found + [more])))
                if rest:
                    self.assertFalse(is_stuck(kinds, pairs, line, kept, sorted(found + rest)))

    def test_lonely_kinds(self):
        suits = Suits(["a", "b", "x"], [("a", "b")])
        self.assertEqual(leave(suits, ["x"], []), ("stuck", [0]))
        self.assertEqual(leave(suits, ["x"], [0]), ("row", []))
        self.assertEqual(leave(suits, ["a", "x", "a", "x"], []), ("stuck", [1, 3]))
        self.assertEqual(leave(suits, ["a", "x", "a", "x"], [1]), ("stuck", [3]))
        self.assertEqual(leave(suits, ["a", "x", "a", "x"], [1, 3]), ("row", ["b", "b"]))
        self.assertEqual(leave(suits, ["a", "x", "a", "x"], [0, 1]), ("stuck", [2, 3]))
        self.assertEqual(leave(suits, ["x"] * 200, []), ("stuck", list(range(200))))

    def test_kept_persons_none_few_and_all(self):
        self.assertEqual(leave(R, [], []), ("row", []))
        self.assertEqual(leave(R, ["a"] * 200, []), ("row", ["b"] * 200))
        self.assertEqual(leave(R, ["a"] * 200, [199]), ("row", ["b"] * 199))
        self.assertEqual(leave(R, ["a"] * 200, list(range(100, 200))), ("row", ["b"] * 100))
        self.assertEqual(leave(R, ["a"] * 200, [0]), ("stuck", list(range(1, 200))))
        self.assertEqual(leave(R, ["a"] * 200, [100]), ("stuck", list(range(101, 200))))
        self.assertEqual(leave(R, ["a"] * 200, list(range(200))), ("row", []))
        self.assertEqual(leave(R, ["a", "c", "a"], [0, 2]), ("row", ["c"]))
        self.assertEqual(leave(R, ["a", "c", "a"], [1]), ("stuck", [2]))

    def test_held_by_each_other_in_turn(self):
        pairs = [("a", "p"), ("b", "q"), ("c", "p"), ("c", "q"), ("d", "r")]
        line = ["a", "b", "c", "d"]
        # Each of p and q that suits c suits a or b before it, too; but nobody holds d.
        suits = Suits(["a", "b", "c", "d", "p", "q", "r"], pairs)
        self.assertEqual(leave(suits, line, [0, 1]), ("stuck", [2]))
        self.assertEqual(leave(suits, line, [0]), ("row", ["q", "q", "r"]))
        self.assertEqual(leave(suits, line, [1]), ("row", ["p", "p", "r"]))
        # If r suits c, then c can leave, and then d, which c would have held.
        suits = Suits(["a", "b", "c", "d", "p", "q", "r"], pairs + [("c", "r")])
        self.assertEqual(leave(suits, line, [0, 1]), ("row", ["r", "r"]))
        self.assertEqual(leave(suits, line, [0, 1, 2]), ("stuck", [3]))
        # If q suits d instead, then b holds it.
        suits = Suits(["a", "b", "c", "d", "p", "q"], pairs[:4] + [("d", "q")])
        self.assertEqual(leave(suits, line, [0, 1]), ("stuck", [2, 3]))
        self.assertEqual(leave(suits, line, [0]), ("row", ["q", "q", "q"]))


class AreStuck(Keeping, unittest.TestCase):
    def test_all_sets_of_short_lines(self):
        said = []
        for kinds, pairs, suits, line, kept in list(short_cases(3)) + list(short_cases(4))[::9]:
            for thing in model.subsets(list(range(len(line)))):
                wanted = is_stuck(kinds, pairs, line, kept, thing)
                self.assert_truth(are_stuck(suits, line, kept, thing), wanted)
                said.append(wanted)
        self.assertGreater(said.count(True), 1000)

    def test_all_short_lists_of_indexes(self):
        for kinds, pairs, suits, line, kept in list(short_cases(2))[::3]:
            for thing in all_lists_up_to(list(range(-1, len(line) + 1)), 3):
                inside = all(0 <= person < len(line) for person in thing)
                wanted = inside and is_stuck(kinds, pairs, line, kept, thing)
                self.assert_truth(are_stuck(suits, line, kept, thing), wanted)

    def test_parts_of_stuck_sets(self):
        said = []
        for kinds, pairs, suits, line, kept in list(long_cases(95))[::2]:
            word, found = leave(suits, line, kept)
            if word == "stuck":
                for part in [found[:at] + found[at + 1:] for at in range(len(found))][:10] + [found[1:], found[:-1]]:
                    wanted = is_stuck(kinds, pairs, line, kept, part)
                    self.assert_truth(are_stuck(suits, line, kept, part), wanted)
                    said.append(wanted)
                for thing in (found + found[-1:], found[:1] + found, found[::-1] if len(found) > 1 else [],
                              found + [len(line)], [-1] + found, found + kept[-1:] if kept else [],
                              sorted(found + kept[:1]) if kept else [], [str(found)], [found], tuple(found)):
                    self.assert_truth(are_stuck(suits, line, kept, thing), False)
        self.assertGreater(min(said.count(True), said.count(False)), 50)

    def test_unions_are_stuck(self):
        for kinds, pairs, suits, line, kept in list(short_cases(4))[::5]:
            stuck = [part for part in model.subsets(list(range(len(line)))) if are_stuck(suits, line, kept, part)]
            for one, other in itertools.combinations(stuck, 2):
                self.assert_truth(are_stuck(suits, line, kept, sorted({*one, *other})), True)

    def test_the_longest_lines(self):
        places = list(range(200))
        line = ["a"] * 200
        self.assert_truth(are_stuck(R, line, [0], places[1:]), True)
        self.assert_truth(are_stuck(R, line, [0], [199]), True)
        self.assert_truth(are_stuck(R, line, [1], places[2:]), True)
        self.assert_truth(are_stuck(R, line, [1], [0] + places[2:]), False)
        self.assert_truth(are_stuck(R, line, [], places), False)
        self.assert_truth(are_stuck(R, line, [100], [99]), False)
        self.assert_truth(are_stuck(R, line, [100], [101]), True)
        self.assert_truth(are_stuck(Suits(["a"], []), line, [], places), True)

    def test_the_empty_list(self):
        for suits, line, kept in ((R, [], []), (R, ["a"], []), (R, ["a"], [0]), (Suits(["a"], []), ["a"], [])):
            self.assert_truth(are_stuck(suits, line, kept, []), False)

    def test_beyond_the_ends_kept_twice_or_not_ascending(self):
        free = Suits(["a"], [])
        line = ["a"] * 4
        for thing, so in (([0], True), ([3], True), ([0, 1, 2, 3], True), ([4], False), ([-1], False), ([0, 4], False),
                          ([-1, 0], False), ([0, 0], False), ([1, 1, 2], False), ([1, 0], False), ([0, 2, 1], False),
                          ([10 ** 39], False), ([-(10 ** 39), 0], False), ([-4], False), ([-4, -3], False)):
            self.assert_truth(are_stuck(free, line, [], thing), so)
        for thing, so in (([0], True), ([0, 2], True), ([1], False), ([0, 1], False), ([1, 2], False), ([0, 3], False)):
            self.assert_truth(are_stuck(free, line, [1, 3], thing), so)

    def test_truths_are_no_indexes(self):
        free = Suits(["a"], [])
        for thing in ([False], [True], [False, True], [0, True], [False, 1], [True, 2]):
            self.assert_truth(are_stuck(free, ["a"] * 3, [], thing), False)
        self.assert_truth(are_stuck(free, ["a"] * 3, [], [0, 1]), True)

    def test_any_value(self):
        free = Suits(["a"], [])
        for thing in odd_values() + [nested(8), [nested(7)], tuple(nested(7))]:
            # One of the odd values is the list of 0.
            if thing.__class__ is not list or thing != [0]:
                self.assert_truth(are_stuck(free, ["a", "a"], [], thing), False)
            plain = thing.__class__ is int
            self.assert_truth(are_stuck(free, ["a", "a"], [], [thing]), plain and thing in (0, 1))
            self.assert_truth(are_stuck(free, ["a", "a"], [], [0, thing]), plain and thing == 1)
            self.assert_truth(are_stuck(free, ["a", "a"], [], [thing, 1]), plain and thing == 0)
            self.assert_truth(are_stuck(free, ["a", "a"], [], (thing,)), False)

    def test_other_containers(self):
        free = Suits(["a"], [])
        for thing in ((0,), {0}, {0: 1}, range(1), "0", b"\x00", ["0"], [b"\x00"], [(0,)], [[0]], [None], iter([0]), 0,
                      None, True, [0, [1]], [0, None]):
            self.assert_truth(are_stuck(free, ["a", "a"], [], thing), False)


if __name__ == "__main__":
    unittest.main()
