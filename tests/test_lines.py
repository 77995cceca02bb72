"""[30], [31], [2]: lines, rows, and newcomers who come one after another."""

import inspect
import random
import unittest

from suitedpairs.lines import after, come, is_line, is_row, moments
from suitedpairs.suits import Suits
from tests import model
from tests.values import Keeping, all_lists_up_to, nested, odd_values

R = Suits(["a", "b", "c"], [("a", "b"), ("b", "c"), ("c", "c")])
RELATIONS = model.small_relations() + model.large_relations(2)


class IsLine(Keeping, unittest.TestCase):
    def test_all_short_lists(self):
        for kinds, pairs in model.small_relations():
            suits = Suits(kinds, pairs)
            for thing in all_lists_up_to(kinds, 4):
                self.assert_truth(is_line(suits, thing), model.is_line(pairs, thing))

    def test_large_relations(self):
        chance = random.Random(7)
        for kinds, pairs in model.large_relations():
            suits = Suits(kinds, pairs)
            for _ in range(60):
                thing = model.random_row(chance, kinds, chance.randint(0, 6))
                self.assert_truth(is_line(suits, thing), model.is_line(pairs, thing))
                line = model.random_line(chance, kinds, pairs, 30)
                self.assert_truth(is_line(suits, line), True)

    def test_the_empty_list(self):
        for kinds, pairs in RELATIONS:
            self.assert_truth(is_line(Suits(kinds, pairs), []), True)

    def test_any_length(self):
        for many in (1, 2, 199, 200, 201, 400, 5000, 24000):
            self.assert_truth(is_line(R, ["a"] * many), True)
            self.assert_truth(is_line(R, ["b"] * many), True)
            self.assert_truth(is_line(R, ["c"] * many), many == 1)
            self.assert_truth(is_line(R, ["a"] * many + ["c"]), True)
            self.assert_truth(is_line(R, ["c"] + ["a"] * many), True)
            self.assert_truth(is_line(R, ["a"] * many + ["b"]), False)
            self.assert_truth(is_line(R, ["b"] + ["a"] * many), False)
            self.assert_truth(is_line(R, ["c"] + ["a"] * many + ["c"]), False)

    def test_two_that_suit_each_other_at_different_places(self):
        for many in (3, 10, 200, 201):
            for one, other in ((0, 1), (0, many - 1), (many - 2, many - 1), (many // 2, many - 1)):
                suits = Suits(["a", "x", "y"], [("x", "y")])
                for pair in (("x", "y"), ("y", "x")):
                    line = ["a"] * many
                    line[one], line[other] = pair
                    self.assert_truth(is_line(suits, line), False)
                    line[other] = "a"
                    self.assert_truth(is_line(suits, line), True)

    def test_a_kind_that_suits_itself(self):
        suits = Suits(["a", "b"], [("a", "a")])
        for line, so in ((["a"], True), (["a", "a"], False), (["b", "b"], True), (["a", "b"], True),
                         (["a", "b", "a"], False), (["b", "a", "b"], True), (["b", "a", "a"], False)):
            self.assert_truth(is_line(suits, line), so)


class IsRow(Keeping, unittest.TestCase):
    def test_all_short_lists(self):
        for kinds, pairs in model.small_relations():
            suits = Suits(kinds, pairs)
            for thing in all_lists_up_to(kinds, 3):
                self.assert_truth(is_row(suits, thing), True)

    def test_at_most_200(self):
        for kinds, pairs in RELATIONS:
            suits = Suits(kinds, pairs)
            for many in (0, 1, 199, 200, 201, 202, 400):
                for kind in kinds:
                    self.assert_truth(is_row(suits, [kind] * many), many <= 200)
        self.assert_truth(is_row(R, ["a", "b"] * 100), True)
        self.assert_truth(is_row(R, ["a", "b"] * 100 + ["c"]), False)
        self.assert_truth(is_row(R, ["a", "b"] * 12000), False)


class AnyValue(Keeping, unittest.TestCase):
    def test_odd_values_are_neither(self):
        suits = Suits(["a", "ab"], [])
        for thing in odd_values():
            for call in (is_line, is_row):
                self.assert_truth(call(suits, thing), False)
                for value in ([thing], ["a", thing], [thing, "a"], ["a", thing, "ab"], (thing,), [["a"], thing]):
                    self.assert_truth(call(suits, value), False)

    def test_other_containers_are_neither(self):
        for thing in ((), ("a",), ("a", "a"), "", "a", "aa", {}, {"a": 1}, {"a"}, set(), b"", b"a", None, 0, True,
                      [("a",)], [["a"]], [[]], nested(8), [None], [True], [0], ["a", None], range(0)):
            self.assert_truth(is_line(R, thing), False)
            self.assert_truth(is_row(R, thing), False)

    def test_kinds_that_are_not_of_the_relation(self):
        for wrong in ("d", "x", "aa", "ab", "abcdefgh", "A", "", "a ", "a\n", "abcdefghi"):
            for thing in ([wrong], ["a", wrong], [wrong, "a"], ["a"] * 150 + [wrong], ["a", wrong, "c"]):
                self.assert_truth(is_line(R, thing), False)
                self.assert_truth(is_row(R, thing), False)
        self.assert_truth(is_line(Suits(["x", "ab"], []), ["ab", "x"]), True)
        self.assert_truth(is_row(Suits(["x", "ab"], []), ["ab", "x"]), True)
        self.assert_truth(is_line(Suits(["x", "ab"], []), ["a"]), False)
        self.assert_truth(is_row(Suits(["x", "ab"], []), ["a", "b"]), False)


class Come(Keeping, unittest.TestCase):
    def assert_comes(self, suits, pairs, line, kind):
        place, now = come(suits, line, kind)
        fit = [at for at, other in enumerate(line) if model.do_suit(pairs, kind, other)]
        if fit:
            self.assertEqual((repr(place), now), (repr(fit[0]), line[:fit[0]] + line[fit[0] + 1:]))
        else:
            self.assertEqual((place, now), (None, line + [kind]))

    def test_short_lines(self):
        for kinds, pairs in RELATIONS:
            suits = Suits(kinds, pairs)
            for line in model.lines_up_to(kinds, pairs, 4 if len(kinds) < 4 else 2):
                for kind in kinds:
                    self.assert_comes(suits, pairs, line, kind)

    def test_long_lines(self):
        chance = random.Random(8)
        for kinds, pairs in model.large_relations():
            suits = Suits(kinds, pairs)
            for _ in range(5):
                line = model.random_line(chance, kinds, pairs, 200)
                for kind in kinds:
                    self.assert_comes(suits, pairs, line, kind)

    def test_the_one_who_has_waited_longest(self):
        suits = Suits(["a", "b", "c", "d"], [("a", "d"), ("b", "d")])
        self.assertEqual(come(suits, ["c", "b", "a", "b"], "d"), (1, ["c", "a", "b"]))
        self.assertEqual(come(suits, ["c", "a", "b", "a"], "d"), (1, ["c", "b", "a"]))
        self.assertEqual(come(suits, ["c"] * 199 + ["a"], "d"), (199, ["c"] * 199))
        self.assertEqual(come(suits, ["a"] * 200, "d"), (0, ["a"] * 199))
        self.assertEqual(come(suits, ["c"] * 200, "d"), (None, ["c"] * 200 + ["d"]))

    def test_it_returns_a_tuple(self):
        self.assertIs(come(R, [], "a").__class__, tuple)
        self.assertIs(come(R, ["b"], "a").__class__, tuple)


class AfterAndMoments(Keeping, unittest.TestCase):
    def assert_runs(self, suits, pairs, line, row):
        self.assertEqual(after(suits, line, row), model.after(pairs, line, row))
        self.assertEqual(list(moments(suits, line, row)), model.moments(pairs, line, row))

    def test_short_runs(self):
        for kinds, pairs in model.small_relations():
            suits = Suits(kinds, pairs)
            for line in model.lines_up_to(kinds, pairs, 2):
                for row in all_lists_up_to(kinds, 3):
                    self.assert_runs(suits, pairs, line, row)

    def test_long_runs(self):
        chance = random.Random(9)
        for kinds, pairs in RELATIONS:
            suits = Suits(kinds, pairs)
            line = model.random_line(chance, kinds, pairs, 200)
            self.assert_runs(suits, pairs, line, model.random_row(chance, kinds, 200))
            self.assert_runs(suits, pairs, [], model.random_row(chance, kinds, 60))

    def test_the_result_is_a_line(self):
        chance = random.Random(10)
        for kinds, pairs in RELATIONS:
            suits = Suits(kinds, pairs)
            line = model.random_line(chance, kinds, pairs, 20)
            for now in moments(suits, line, model.random_row(chance, kinds, 30)):
                self.assert_truth(is_line(suits, now), True)

    def test_the_longest_lines(self):
        self.assertEqual(after(R, ["a"] * 200, ["a"] * 200), ["a"] * 400)
        self.assertEqual(after(R, ["a"] * 200, ["b"] * 200), [])
        self.assertEqual(after(R, ["a"] * 200, []), ["a"] * 200)
        self.assertEqual([len(now) for now in moments(R, [], ["a"] * 200)], list(range(1, 201)))
        self.assertEqual([len(now) for now in moments(R, ["a"] * 200, ["b"] * 200)], list(range(199, -1, -1)))

    def test_no_newcomers(self):
        for line in ([], ["a"], ["a", "c", "a"]):
            self.assertEqual(after(R, line, []), line)
            self.assertIsNot(after(R, line, []), line)
            self.assertEqual(list(moments(R, line, [])), [])


class Walks(unittest.TestCase):
    def test_moments_is_a_generator(self):
        self.assertTrue(inspect.isgenerator(moments(R, ["a"], ["b"])))
        self.assertTrue(inspect.isgenerator(moments(R, [], [])))

    def test_each_line_may_be_changed_before_the_next_one(self):
        chance = random.Random(11)
        for kinds, pairs in RELATIONS:
            suits = Suits(kinds, pairs)
            line = model.random_line(chance, kinds, pairs, 10)
            row = model.random_row(chance, kinds, 20)
            before = repr((line, row))
            wanted = model.moments(pairs, line, row)
            for change in (list.clear, list.reverse, lambda now: now.append(kinds[0]), lambda now: now.insert(0, "x")):
                told = []
                for now in moments(suits, line, row):
                    told.append(list(now))
                    change(now)
                self.assertEqual(told, wanted)
                self.assertEqual(repr((line, row)), before)

    def test_each_line_is_new(self):
        line, row = ["a"], ["a", "c", "b", "b", "c", "a"]
        lines = list(moments(R, line, row))
        self.assertEqual(len({id(now) for now in [line, row, *lines]}), len(lines) + 2)

    def test_earlier_lines_stay(self):
        line, row = ["a"], ["a", "c", "b", "b", "c", "a"]
        kept, shown = [], []
        for now in moments(R, line, row):
            kept.append(now)
            shown.append(list(now))
        self.assertEqual(kept, shown)

    def test_two_walks_at_once(self):
        one, other = moments(R, ["a"], ["c", "b", "b"]), moments(R, ["a", "a"], ["b", "c", "c"])
        told = []
        for _ in range(3):
            told.append((next(one), next(other)))
        self.assertEqual(told, [(["a", "c"], ["a"]), (["c"], ["a", "c"]), ([], ["a"])])
        for walk in (one, other):
            with self.assertRaises(StopIteration):
                next(walk)

    def test_two_walks_over_the_same_lists(self):
        line, row = ["a", "c"], ["a", "b", "b", "c"]
        wanted = model.moments(R.pairs(), line, row)
        one, other = moments(R, line, row), moments(R, line, row)
        told = [next(one)]
        told[0].clear()
        self.assertEqual([next(other), next(other)], wanted[:2])
        self.assertEqual(list(one), wanted[1:])
        self.assertEqual(list(other), wanted[2:])

    def test_two_walks_of_two_relations(self):
        free = Suits(["a", "b", "c"], [])
        row = ["a", "b", "c", "c"]
        walks = [moments(R, [], row), moments(free, [], row)]
        told = [[next(walk) for walk in walks] for _ in row]
        self.assertEqual(told, [[one, row[:at + 1]] for at, one in enumerate(model.moments(R.pairs(), [], row))])


if __name__ == "__main__":
    unittest.main()
