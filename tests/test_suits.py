"""[22], [3]: what a relation tells, for relations of one to eight kinds."""

import random
import unittest

from suitedpairs.errors import NoKind
from suitedpairs.suits import Suits
from tests import model
from tests.values import Keeping, odd_values

RELATIONS = model.small_relations() + model.large_relations()


class Tells(Keeping, unittest.TestCase):
    def each_relation(self):
        for kinds, pairs in RELATIONS:
            with self.subTest(kinds=kinds, pairs=pairs):
                yield sorted(kinds), pairs, Suits(kinds, pairs)

    def test_kinds_and_pairs(self):
        for kinds, pairs, suits in self.each_relation():
            self.assertEqual(suits.kinds(), kinds)
            self.assertEqual(suits.pairs(), sorted((min(pair), max(pair)) for pair in pairs))
            self.assertTrue(all(isinstance(pair, tuple) for pair in suits.pairs()))

    def test_many_and_length(self):
        for kinds, pairs, suits in self.each_relation():
            self.assertEqual(repr(suits.many), repr(len(pairs)))
            self.assertEqual(repr(len(suits)), repr(len(kinds)))

    def test_repr(self):
        for kinds, pairs, suits in self.each_relation():
            self.assertEqual(repr(suits), f"Suits({suits.kinds()}, {suits.pairs()})")
            self.assertEqual(eval(repr(suits), {"Suits": Suits}), suits)

    def test_call(self):
        for kinds, pairs, suits in self.each_relation():
            for one in kinds:
                for other in kinds:
                    self.assert_truth(suits(one, other), model.do_suit(pairs, one, other))

    def test_in(self):
        for kinds, pairs, suits in self.each_relation():
            for one in kinds:
                for other in kinds:
                    self.assertEqual((one, other) in suits, model.do_suit(pairs, one, other))
                    self.assertNotIn([one, other], suits)

    def test_lonely(self):
        for kinds, pairs, suits in self.each_relation():
            alone = [kind for kind in kinds if not model.mates(kinds, pairs, [kind])]
            self.assertEqual(suits.lonely(), alone)

    def test_mates(self):
        chance = random.Random(2)
        for kinds, pairs, suits in self.each_relation():
            for asked in model.subsets(kinds):
                self.assertEqual(suits.mates(asked), model.mates(kinds, pairs, asked))
            for length in (2, 5, 12, 200):
                asked = model.random_row(chance, kinds, length)
                self.assertEqual(suits.mates(asked), model.mates(kinds, pairs, asked))

    def test_is_calm(self):
        for kinds, pairs, suits in self.each_relation():
            for asked in model.subsets(kinds):
                self.assert_truth(suits.is_calm(asked), model.is_calm(pairs, asked))

    def test_calm_sets(self):
        for kinds, pairs, suits in self.each_relation():
            calm = sorted(one for one in model.subsets(kinds) if model.is_calm(pairs, one))
            self.assertEqual(suits.calm_sets(), calm)

    def test_all_sets_are_calm_without_pairs(self):
        self.assertEqual(len(Suits(model.LETTERS, []).calm_sets()), 256)
        self.assertEqual(Suits(model.LETTERS, model.possible_pairs(model.LETTERS)).calm_sets(), [[]])


class Orders(Keeping, unittest.TestCase):
    def test_the_order_handed_in_does_not_count(self):
        chance = random.Random(3)
        for kinds, pairs in RELATIONS:
            suits = Suits(kinds, pairs)
            for _ in range(3):
                other = Suits(*model.mixed(chance, kinds, pairs))
                self.assert_truth(suits == other, True)
                self.assert_truth(suits != other, False)
                self.assertEqual(repr(suits), repr(other))
                self.assertEqual(suits.calm_sets(), other.calm_sets())
                self.assertEqual(suits.mates(kinds[:2]), other.mates(kinds[:2]))

    def test_kinds_are_ordered_as_strings(self):
        suits = Suits(["b", "ba", "a", "ab", "aab", "z"], [("z", "a"), ("b", "ab"), ("ba", "aab"), ("ab", "ab")])
        self.assertEqual(suits.kinds(), ["a", "aab", "ab", "b", "ba", "z"])
        self.assertEqual(suits.pairs(), [("a", "z"), ("aab", "ba"), ("ab", "ab"), ("ab", "b")])
        self.assertEqual(suits.mates(["z", "ab", "ba"]), ["a", "aab", "ab", "b"])


class Equal(Keeping, unittest.TestCase):
    def test_small_relations_among_each_other(self):
        for kinds, pairs in model.small_relations():
            for others, more in model.small_relations():
                same = kinds == others and sorted(pairs) == sorted(more)
                self.assert_truth(Suits(kinds, pairs) == Suits(others, more), same)
                self.assert_truth(Suits(kinds, pairs) != Suits(others, more), not same)

    def test_same_pairs_of_other_kinds(self):
        self.assertFalse(Suits(["a", "b"], []) == Suits(["a", "c"], []))
        self.assertFalse(Suits(["a", "b"], [("a", "b")]) == Suits(["a", "b", "c"], [("a", "b")]))
        self.assertFalse(Suits(["a", "b"], [("a", "a")]) == Suits(["a", "b"], [("b", "b")]))

    def test_equal_to_nothing_else(self):
        suits = Suits(["a", "b"], [("a", "b")])
        others = [repr(suits), (["a", "b"], [("a", "b")]), ["a", "b"], [("a", "b")], ("a", "b"), Suits, 2, 1]
        for other in odd_values() + others:
            self.assert_truth(suits == other, False)
            self.assert_truth(suits != other, True)
            self.assert_truth(other == suits, False)

    def test_what_looks_alike_is_not_equal(self):
        suits = Suits(["a", "b"], [("a", "b")])
        self.assert_truth(suits == LooksAlike(suits), False)
        self.assert_truth(suits != LooksAlike(suits), True)

    def test_equal_to_itself(self):
        suits = Suits(["a"], [])
        self.assert_truth(suits == suits, True)
        self.assert_truth(suits != suits, False)


class LooksAlike:
    """An object that shows the same as a relation, and is none."""

    def __init__(self, suits):
        self.suits = suits
        self.many = suits.many

    def __repr__(self):
        return repr(self.suits)

    def __len__(self):
        return len(self.suits)

    def kinds(self):
        return self.suits.kinds()

    def pairs(self):
        return self.suits.pairs()


class Called(Keeping, unittest.TestCase):
    def test_a_kind_that_is_not_of_the_relation(self):
        suits = Suits(["a", "b", "cc"], [("a", "b"), ("b", "b")])
        for one, other, wrong in (("x", "a", "x"), ("a", "x", "x"), ("x", "y", "x"), ("y", "x", "y"), ("x", "x", "x"),
                                  ("c", "cc", "c"), ("cc", "c", "c"), ("a", "ab", "ab"), ("aa", "b", "aa")):
            self.assertEqual(self.raised(NoKind, suits, one, other).kind, wrong)

    def test_the_very_kind_is_kept(self):
        suits = Suits(["a"], [])
        kind = "".join(["x", "yz"])
        self.assertIs(self.raised(NoKind, suits, "a", kind).kind, kind)
        self.assertIs(self.raised(NoKind, suits, kind, "a").kind, kind)

    def test_kinds_of_the_relation_never_raise(self):
        for many in range(1, 9):
            kinds = model.LETTERS[:many]
            for suits in (Suits(kinds, []), Suits.each(kinds)):
                for one in kinds:
                    for other in kinds:
                        self.assert_truth(suits(one, other), suits.many > 0 and one != other)


class Contains(unittest.TestCase):
    def test_other_values(self):
        suits = Suits(["a", "b"], [("a", "a"), ("a", "b")])
        others = [["a", "b"], "ab", "a b", ("a",), ("a", "b", "a"), ("a", "a", "a"), {"a", "b"}, {"a": "b", "b": "a"},
                  frozenset("ab"), b"ab", (("a", "b"),), [("a", "b")], ("a", "x"), ("x", "a"), ("x", "x"), ("b", "b"),
                  ("a", "ab"), (b"a", b"b"), "x", ["a"], suits, Suits, ("A", "a"), ("a", "")]
        for thing in odd_values() + others:
            for value in (thing, (thing, "a"), ("a", thing), (thing, thing), ("a", "b", thing), [("a", thing)]):
                self.assertIs(value in suits, False)

    def test_large_values(self):
        suits = Suits(["a", "b"], [("a", "a"), ("a", "b")])
        for thing in (("a",) * 24000, ["a", "b"] * 12000, ("a", ["a"] * 20000), (("a",) * 12000, ("b",) * 12000)):
            self.assertIs(thing in suits, False)


class Many(unittest.TestCase):
    def test_it_is_a_property(self):
        suits = Suits(["a", "b"], [("a", "b")])
        self.assertIsInstance(Suits.__dict__["many"], property)
        self.assertEqual(suits.many, 1)
        self.assertEqual(suits.many, 1)


class Made(Keeping, unittest.TestCase):
    def test_ring(self):
        chance = random.Random(4)
        for many in range(3, 9):
            for _ in range(6):
                kinds = chance.sample(model.LETTERS, many)
                pairs = [(kinds[at], kinds[(at + 1) % many]) for at in range(many)]
                suits = Suits.ring(kinds)
                self.assertIs(suits.__class__, Suits)
                self.assertEqual(suits, Suits(kinds, pairs))
                self.assertEqual(suits.many, many)
                self.assertTrue(all(len(suits.mates([kind])) == 2 for kind in kinds))

    def test_a_ring_of_three(self):
        self.assertEqual(Suits.ring(["c", "a", "b"]), Suits.each(["a", "b", "c"]))
        self.assertEqual(Suits.ring(["c", "a", "b"]).pairs(), [("a", "b"), ("a", "c"), ("b", "c")])

    def test_the_order_of_a_ring_counts(self):
        self.assertEqual(Suits.ring(["a", "c", "b", "d"]).pairs(), [("a", "c"), ("a", "d"), ("b", "c"), ("b", "d")])
        self.assertNotEqual(Suits.ring(["a", "b", "c", "d"]), Suits.ring(["a", "c", "b", "d"]))

    def test_each(self):
        chance = random.Random(6)
        for many in range(1, 9):
            kinds = chance.sample(model.LETTERS, many)
            suits = Suits.each(kinds)
            self.assertIs(suits.__class__, Suits)
            self.assertEqual(suits.kinds(), sorted(kinds))
            self.assertEqual(suits.many, many * (many - 1) // 2)
            for one in kinds:
                for other in kinds:
                    self.assert_truth(suits(one, other), one != other)

    def test_what_is_passed_stays(self):
        for call in (Suits.ring, Suits.each):
            kinds = ["c", "a", "d", "b"]
            suits = call(kinds)
            self.assertEqual(kinds, ["c", "a", "d", "b"])
            told = repr(suits)
            kinds.pop()
            kinds[0] = "x"
            self.assertEqual(repr(suits), told)
            self.assertEqual(repr(call(["c", "a", "d", "b"])), told)


class Keeps(Keeping, unittest.TestCase):
    def test_what_is_passed_and_what_is_returned(self):
        for kinds, pairs in RELATIONS:
            suits = Suits(kinds, pairs)
            for call in (suits.kinds, suits.pairs, suits.lonely, suits.calm_sets):
                self.assert_keeps(call)
            for asked in ([], kinds[:1], kinds[-1:], kinds + kinds[:1], kinds[::-1]):
                self.assert_keeps(suits.mates, asked)
            for asked in ([], sorted(kinds)[:1], sorted(kinds)[:2], sorted(kinds)):
                self.assert_keeps(suits.is_calm, asked)
            self.assertEqual(suits, Suits(kinds, pairs))

    def test_what_was_passed_may_be_changed(self):
        for kinds, pairs in RELATIONS:
            given, couples = list(kinds), list(pairs)
            suits = Suits(given, couples)
            self.assertEqual((given, couples), (kinds, pairs))
            before = told(suits)
            given.reverse()
            given.append("x")
            given.pop(0)
            couples.reverse()
            couples.append(("x", "x"))
            couples.pop(0)
            self.assertEqual(told(suits), before)
            given.clear()
            couples.clear()
            self.assertEqual(told(suits), before)

    def test_relations_are_independent(self):
        first = Suits(["a", "b"], [("a", "b")])
        before = told(first)
        second = Suits(["a", "b"], [("a", "a")])
        third = Suits(["c"], [("c", "c")])
        self.assertEqual(told(first), before)
        self.assertEqual([second.mates(["a"]), third.mates(["c"]), first.mates(["a"])], [["a"], ["c"], ["b"]])
        self.assertEqual([second.calm_sets(), third.calm_sets(), first.calm_sets()],
                         [[[], ["b"]], [[]], [[], ["a"], ["b"]]])

    def test_mates_of_a_list_that_changes(self):
        suits = Suits(["a", "b", "c"], [("a", "b"), ("b", "c"), ("c", "c")])
        asked = ["a"]
        self.assertEqual([suits.mates(asked), suits.is_calm(asked)], [["b"], True])
        asked[0] = "c"
        self.assertEqual([suits.mates(asked), suits.is_calm(asked)], [["b", "c"], False])
        asked.clear()
        self.assertEqual([suits.mates(asked), suits.is_calm(asked)], [[], True])


def told(suits):
    """All that a relation tells, as one string."""
    kinds = suits.kinds()
    return repr([suits, kinds, suits.pairs(), suits.lonely(), suits.calm_sets(), len(suits), suits.many,
                 [suits.mates(asked) for asked in model.subsets(kinds)],
                 [(suits(one, other), (one, other) in suits) for one in kinds for other in kinds],
                 suits == Suits(kinds, suits.pairs())])


if __name__ == "__main__":
    unittest.main()
