"""[91], [92], [93], [12]: shares of all moments, if newcomers come by chance."""

import random
import unittest
from fractions import Fraction

from suitedpairs.errors import Crowded
from suitedpairs.ratios import Ratio
from suitedpairs.shares import full, joins, length, mean, meets, share, waiting
from suitedpairs.suits import Suits
from suitedpairs.sums import total
from tests import model, weighed
from tests.values import Keeping, spoil

R = Suits(["a", "b", "c"], [("a", "b"), ("b", "c"), ("c", "c")])
WEIGHTS = [("a", 1), ("b", 2), ("c", 2)]


def fraction(ratio):
    """A Ratio as a Fraction; nothing else is taken."""
    if ratio.__class__ is not Ratio:
        raise AssertionError(f"{ratio!r} is no Ratio")
    return Fraction(ratio.top, ratio.bottom)


def steady(each=8, seed=91, most_kinds=5):
    """Relations with weights of which shares are told."""
    for kinds, pairs, weights in weighed.steady_relations(most_kinds, each, seed):
        yield kinds, pairs, Suits(kinds, pairs), weights


def calls(suits, weights):
    """All questions of [92], [93] and [94] that can be asked of each relation."""
    kinds = suits.kinds()
    return [
        lambda: share(suits, weights, []), lambda: share(suits, weights, kinds[:1]),
        lambda: waiting(suits, weights, []), lambda: waiting(suits, weights, kinds),
        lambda: length(suits, weights, 0), lambda: length(suits, weights, 12), lambda: mean(suits, weights),
        lambda: meets(suits, weights, kinds[0], kinds[-1]), lambda: meets(suits, weights, kinds[0], kinds[0]),
        lambda: joins(suits, weights, kinds[0]), lambda: joins(suits, weights, kinds[-1]),
        lambda: total(suits, weights, []), lambda: total(suits, weights, kinds[-1:]),
    ]


class Full(Keeping, unittest.TestCase):
    def test_relations_of_one_to_eight_kinds(self):
        said = []
        for kinds, pairs, weights in weighed.weighed_relations(8, 15, 92):
            found = (weighed.all_full(kinds, pairs, weights) + [None])[0]
            self.assertEqual(repr(full(Suits(kinds, pairs), weights)), repr(found))
            said.append((len(kinds), found is None))
        for many in range(1, 9):
            self.assertGreater(said.count((many, True)), 1)
            self.assertGreater(said.count((many, False)), 1)

    def test_just_the_weight_of_the_mates_one_less_one_more(self):
        seen = [0, 0]
        chance = random.Random(93)
        for kinds, pairs in weighed.relations(8, 10, 94):
            suits = Suits(kinds, pairs)
            for members in [one for one in suits.calm_sets() if one][::3]:
                mates = suits.mates(members)
                weights = dict(weighed.made_weights(chance, kinds, 30))
                least = sum(weights[kind] for kind in mates) - sum(weights[kind] for kind in members[1:])
                for more in (-1, 0, 1):
                    if 1 <= least + more <= 1000:
                        weights[members[0]] = least + more
                        self.assert_full(kinds, pairs, suits, sorted(weights.items()), members, more, seen)
        self.assertGreater(min(seen), 50)

    def assert_full(self, kinds, pairs, suits, weights, members, more, seen):
        """The set is full just if its weight is that of the mates, or more; and the first of all full ones is told."""
        all_full = weighed.all_full(kinds, pairs, weights)
        self.assertEqual(members in all_full, more >= 0)
        self.assertEqual(full(suits, weights), (all_full + [None])[0])
        seen[all_full[:1] == [members]] += 1

    def test_fewest_kinds_first_and_then_ascending(self):
        kinds = ["a", "b", "c", "z"]
        suits = Suits(kinds, [("a", "z"), ("b", "z"), ("c", "z"), ("z", "z")])
        for numbers, wanted in (([1, 2, 2, 4], ["b", "c"]), ([1, 2, 4, 4], ["c"]), ([2, 2, 2, 4], ["a", "b"]),
                                ([1, 1, 2, 4], ["a", "b", "c"]), ([1, 1, 1, 4], None), ([4, 4, 4, 4], ["a"]),
                                ([3, 4, 4, 4], ["b"]), ([999, 1, 1000, 1000], ["c"]),
                                ([999, 1, 999, 1000], ["a", "b"])):
            self.assertEqual(full(suits, list(zip(kinds, numbers))), wanted)

    def test_lonely_kinds(self):
        self.assertEqual(full(Suits(["a"], []), [("a", 1)]), ["a"])
        self.assertEqual(full(Suits(["a"], [("a", "a")]), [("a", 1)]), None)
        self.assertEqual(full(Suits(["a", "x"], [("a", "a")]), [("a", 1000), ("x", 1)]), ["x"])

    def test_who_raises_it(self):
        seen = [0, 0]
        for kinds, pairs, weights in weighed.weighed_relations(5, 8, 95):
            suits = Suits(kinds, pairs)
            members = full(suits, weights)
            seen[members is None] += 1
            for call in calls(suits, weights):
                if members is None:
                    self.assertIs(call().__class__, Ratio)
                else:
                    self.assertEqual(self.raised(Crowded, call).members, members)
        self.assertGreater(min(seen), 50)

    def test_before_anything_else(self):
        # Also of a set in which two suit each other, of a kind that does not suit the other one, and of every line.
        suits = Suits(["a", "b", "c"], [("a", "b"), ("c", "c")])
        weights = [("a", 2), ("b", 1), ("c", 9)]
        for call in (lambda: waiting(suits, weights, ["a", "b"]), lambda: meets(suits, weights, "a", "a"),
                     lambda: share(suits, weights, ["c", "b", "b"]), lambda: joins(suits, weights, "c")):
            self.assertEqual(self.raised(Crowded, call).members, ["a"])

    def test_the_members_belong_to_the_caller(self):
        weights = [("a", 2), ("b", 2), ("c", 1)]
        for _ in range(3):
            spoil(full(R, weights))
            self.assertEqual(full(R, weights), ["a"])
            for call in calls(R, weights):
                error = self.raised(Crowded, call)
                self.assertEqual(error.members, ["a"])
                spoil(error.members)


class Share(unittest.TestCase):
    def test_the_product(self):
        chance = random.Random(96)
        for kinds, pairs, suits, weights in steady():
            empty = weighed.all_orders(kinds, pairs, weights)[0][1]
            self.assertEqual(fraction(share(suits, weights, [])), empty)
            lines = model.lines_up_to(kinds, pairs, 2)
            lines = chance.sample(lines, min(len(lines), 3))
            for line in [*lines, *(model.random_line(chance, kinds, pairs, most) for most in (5, 40))]:
                self.assertEqual(fraction(share(suits, weights, line)),
                                 empty * weighed.product(kinds, pairs, weights, line))

    def test_200_persons(self):
        weights = [("a", 999), ("b", 1000), ("c", 1)]
        suits = Suits(["a", "b", "c"], [("a", "b"), ("b", "c"), ("b", "b"), ("c", "c")])
        empty = fraction(share(suits, weights, []))
        self.assertEqual(fraction(share(suits, weights, ["a"] * 200)), empty * Fraction(999, 1000) ** 200)
        self.assertEqual(fraction(share(suits, weights, ["a"] * 100 + ["c"] + ["a"] * 99)),
                         empty * Fraction(999, 1000) ** 100 * Fraction(1, 1001) * Fraction(999, 1001) ** 99)
        five = Suits.each(["a", "b", "c", "d", "e"])
        weights = list(zip("abcde", (1000, 999, 998, 997, 996)))
        self.assertEqual(fraction(share(five, weights, ["c"] * 200)),
                         fraction(share(five, weights, [])) * Fraction(998, 3992) ** 200)

    def test_what_comes_to_a_line_is_its_share(self):
        # The share of a line times the weight of all kinds is what comes to it from all lines.
        seen = 0
        chance = random.Random(97)
        for kinds, pairs, suits, weights in steady(5, 98):
            lines = model.lines_up_to(kinds, pairs, 3 if len(kinds) < 4 else 2)
            for line in chance.sample(lines, min(len(lines), 8)) + [model.random_line(chance, kinds, pairs, 9)]:
                comes = Fraction(0)
                for before, number in befores(kinds, pairs, weights, line):
                    comes += number * fraction(share(suits, weights, before))
                    seen += 1
                self.assertEqual(comes, fraction(share(suits, weights, line)) * weighed.weight(weights, kinds))
        self.assertGreater(seen, 2000)

    def test_as_they_are_written(self):
        self.assertEqual([repr(share(R, WEIGHTS, line)) for line in ([], ["a"], ["b"], ["c"], ["a", "c"], ["c", "a"])],
                         ["Ratio(3, 16)", "Ratio(3, 32)", "Ratio(1, 8)", "Ratio(3, 32)", "Ratio(3, 64)",
                          "Ratio(3, 128)"])

    def test_many_times_the_weights(self):
        for kinds, pairs, suits, weights in steady(4, 99):
            if max(number for _, number in weights) <= 5:
                more = [(kind, number * 200) for kind, number in weights]
                for line in model.lines_up_to(kinds, pairs, 1):
                    self.assertEqual(share(suits, more, line), share(suits, weights, line))
                self.assertEqual(mean(suits, more), mean(suits, weights))


def befores(kinds, pairs, weights, line):
    """All lines from which one newcomer leads to a line, with the weight of the newcomer."""
    if line:
        yield line[:-1], weighed.weight(weights, line[-1:])
    for place in range(len(line) + 1):
        for person in kinds:
            before = line[:place] + [person] + line[place:]
            if model.is_line(pairs, before):
                for kind in model.mates(kinds, pairs, [person]):
                    if not any(model.do_suit(pairs, kind, other) for other in line[:place]):
                        yield before, weighed.weight(weights, [kind])


def solved(equations):
    """The solution of linear equations, each a list of numbers with the right side last."""
    rows = [list(row) for row in equations]
    for at in range(len(rows[0]) - 1):
        chosen = next(row for row in rows[at:] if row[at] != 0)
        rows.remove(chosen)
        chosen = [number / chosen[at] for number in chosen]
        rows = [[one - row[at] * other for one, other in zip(row, chosen)] if row[at] != 0 else row for row in rows]
        rows.insert(at, chosen)
    return [row[-1] for row in rows[:len(rows[0]) - 1]]


class Chains(unittest.TestCase):
    """Where all kinds suit themselves there are finitely many lines: the equations of the chain can be solved."""

    def finite(self):
        chance = random.Random(100)
        for many in (1, 2, 3):
            kinds = model.LETTERS[:many]
            others = [(one, other) for one, other in model.possible_pairs(kinds) if one != other]
            for pairs in model.subsets(others):
                yield kinds, pairs + [(kind, kind) for kind in kinds], weighed.made_weights(chance, kinds, 9)
        four = model.LETTERS[:4]
        more = [(kind, kind) for kind in four]
        yield four, more + [("a", "b"), ("c", "d")], [("a", 1), ("b", 1000), ("c", 7), ("d", 3)]
        yield four, more + [("a", "b"), ("b", "c"), ("c", "d")], weighed.made_weights(chance, four, 1000)

    def solution(self, kinds, pairs, weights):
        """All lines with their shares, from the equations that each line is left as often as it is reached."""
        lines = model.lines_up_to(kinds, pairs, len(kinds))
        places = {tuple(line): at for at, line in enumerate(lines)}
        whole = weighed.weight(weights, kinds)
        rows = [[Fraction(0)] * (len(lines) + 1) for _ in lines]
        for at, line in enumerate(lines):
            rows[at][at] -= whole
            for kind, number in weights:
                rows[places[tuple(model.after(pairs, line, [kind]))]][at] += number
        # One of the equations follows from the others; instead, all shares together are 1.
        rows[-1] = [Fraction(1)] * (len(lines) + 1)
        return list(zip(lines, solved(rows)))

    def test_shares(self):
        for kinds, pairs, weights in self.finite():
            suits = Suits(kinds, pairs)
            for line, wanted in self.solution(kinds, pairs, weights):
                self.assertEqual(fraction(share(suits, weights, line)), wanted)

    def test_what_is_made_of_the_shares(self):
        for kinds, pairs, weights in self.finite():
            suits = Suits(kinds, pairs)
            told = self.solution(kinds, pairs, weights)
            for members in model.subsets(sorted(kinds)):
                self.assertEqual(fraction(waiting(suits, weights, members)),
                                 sum(part for line, part in told if sorted(line) == members))
            for many in range(len(kinds) + 2):
                self.assertEqual(fraction(length(suits, weights, many)),
                                 sum(part for line, part in told if len(line) == many))
            self.assertEqual(fraction(mean(suits, weights)), sum(len(line) * part for line, part in told))
            for kind in kinds:
                self.assert_meetings(kinds, pairs, suits, weights, kind, told)

    def assert_meetings(self, kinds, pairs, suits, weights, kind, told):
        """Whom a newcomer meets, and whether it joins, by the shares of all lines."""
        found = {}
        for line, part in told:
            first = next((other for other in line if model.do_suit(pairs, kind, other)), None)
            found[first] = found.get(first, 0) + part
        for first in kinds:
            self.assertEqual(fraction(meets(suits, weights, kind, first)), found.get(first, 0))
        self.assertEqual(fraction(joins(suits, weights, kind)), found[None])

    def test_a_single_kind(self):
        suits = Suits(["a"], [("a", "a")])
        for number in (1, 5, 1000):
            weights = [("a", number)]
            self.assertEqual([repr(share(suits, weights, line)) for line in ([], ["a"])], ["Ratio(1, 2)"] * 2)
            self.assertEqual([repr(length(suits, weights, many)) for many in (0, 1, 2, 12)],
                             ["Ratio(1, 2)", "Ratio(1, 2)", "Ratio(0, 1)", "Ratio(0, 1)"])
            self.assertEqual(repr(mean(suits, weights)), "Ratio(1, 2)")
            self.assertEqual([repr(meets(suits, weights, "a", "a")), repr(joins(suits, weights, "a"))],
                             ["Ratio(1, 2)"] * 2)
            self.assertEqual([repr(waiting(suits, weights, kinds)) for kinds in ([], ["a"])], ["Ratio(1, 2)"] * 2)


class Waiting(unittest.TestCase):
    def test_each_set(self):
        seen = [0, 0]
        for kinds, pairs, suits, weights in steady():
            orders = weighed.all_orders(kinds, pairs, weights)
            whole = Fraction(0)
            for members in model.subsets(sorted(kinds)):
                found = waiting(suits, weights, members)
                self.assertEqual(fraction(found), sum(part for order, part, _ in orders if sorted(order) == members))
                peaceful = weighed.is_peaceful(pairs, members)
                self.assertEqual(repr(found) == "Ratio(0, 1)", not peaceful)
                if peaceful:
                    self.assertEqual(found, total(suits, weights, members) * share(suits, weights, []))
                seen[peaceful] += 1
                whole += fraction(found)
            self.assertEqual(whole, 1)
        self.assertGreater(min(seen), 200)

    def test_kinds_that_suit_themselves_wait_too(self):
        suits = Suits(["a", "b"], [("a", "a"), ("b", "b")])
        weights = [("a", 3), ("b", 4)]
        self.assertEqual([repr(waiting(suits, weights, kinds)) for kinds in ([], ["a"], ["b"], ["a", "b"])],
                         ["Ratio(1, 4)"] * 4)

    def test_two_that_suit_each_other(self):
        for members in (["a", "b"], ["b", "c"], ["a", "b", "c"]):
            self.assertEqual(repr(waiting(R, WEIGHTS, members)), "Ratio(0, 1)")


class Length(unittest.TestCase):
    def test_the_shares_of_all_lines_of_so_many(self):
        seen = 0
        for kinds, pairs, suits, weights in steady(4, 101):
            empty = weighed.all_orders(kinds, pairs, weights)[0][1]
            lines = [[]]
            many = 0
            while many <= 12 and len(lines) <= 300:
                wanted = empty * sum(weighed.product(kinds, pairs, weights, line) for line in lines)
                self.assertEqual(fraction(length(suits, weights, many)), wanted)
                wider = [line + [kind] for line in lines for kind in kinds]
                lines = [line for line in wider if model.is_line(pairs, line)]
                many += 1
                seen += 1
        self.assertGreater(seen, 500)

    def test_twelve_persons_of_two_kinds(self):
        kinds, pairs = ["a", "b", "c"], [("a", "c"), ("b", "c")]
        suits, weights = Suits(kinds, pairs), [("a", 1), ("b", 2), ("c", 4)]
        self.assertEqual(full(suits, weights), ["c"])
        pairs = pairs + [("c", "c")]
        suits = Suits(kinds, pairs)
        empty = weighed.all_orders(kinds, pairs, weights)[0][1]
        for many in range(2, 13):
            # All lines of a and b: in each of them nobody but c suits anybody.
            self.assertEqual(fraction(length(suits, weights, many)), empty * Fraction(3, 4) ** many)
        # The line of c alone: c suits itself, a and b.
        self.assertEqual(fraction(length(suits, weights, 1)), empty * (Fraction(3, 4) + Fraction(4, 7)))
        self.assertEqual(fraction(length(suits, weights, 0)), empty)

    def test_the_lengths_and_the_mean(self):
        for kinds, pairs, suits, weights in steady(4, 102):
            lengths = [fraction(length(suits, weights, many)) for many in range(13)]
            known = sum(many * part for many, part in enumerate(lengths))
            rest = 1 - sum(lengths)
            self.assertGreaterEqual(rest, 0)
            self.assertGreaterEqual(fraction(mean(suits, weights)), known + 13 * rest)
            if rest == 0:
                self.assertEqual(fraction(mean(suits, weights)), known)
            else:
                self.assertGreater(fraction(mean(suits, weights)), known)


class Mean(unittest.TestCase):
    def test_by_the_orders_of_the_kinds(self):
        for kinds, pairs, suits, weights in steady(20, 103):
            orders = weighed.all_orders(kinds, pairs, weights)
            self.assertEqual(fraction(mean(suits, weights)), sum(part * persons for _, part, persons in orders))

    def test_as_it_is_written(self):
        # Lines of a alone have 2 persons in the mean, those of b alone 3, that of c 1; a and c wait in two orders.
        whole = 1 * 2 + 2 * 3 + Fraction(1, 2) + Fraction(2, 3) * Fraction(10, 3) + Fraction(1, 6) * Fraction(7, 3)
        self.assertEqual(fraction(mean(R, WEIGHTS)), Fraction(3, 16) * whole)
        self.assertEqual(repr(mean(R, WEIGHTS)), "Ratio(25, 12)")
        many = [("a", 999), ("b", 1000)]
        suits = Suits(["a", "b"], [("a", "b"), ("b", "b")])
        empty = fraction(share(suits, many, []))
        # Of a alone, any number of persons; or one of b, which a and b suit.
        self.assertEqual(fraction(mean(suits, many)),
                         empty * (Fraction(999, 1000) / Fraction(1, 1000) ** 2 + Fraction(1000, 1999)))


class Meetings(unittest.TestCase):
    def test_each_two_kinds(self):
        seen = [0, 0]
        for kinds, pairs, suits, weights in steady():
            orders = weighed.all_orders(kinds, pairs, weights)
            for kind in kinds:
                alone = Fraction(0)
                for first in kinds:
                    found = fraction(meets(suits, weights, kind, first))
                    # The first person that suits the kind is the one of the mate that waited first.
                    self.assertEqual(found, sum(part for order, part, _ in orders
                                                if self.first_mate(pairs, order, kind) == first))
                    self.assertEqual(found > 0, model.do_suit(pairs, kind, first))
                    seen[found > 0] += 1
                    alone += found
                joining = fraction(joins(suits, weights, kind))
                self.assertEqual(joining, sum(part for order, part, _ in orders
                                              if self.first_mate(pairs, order, kind) is None))
                self.assertEqual(alone + joining, 1)
        self.assertGreater(min(seen), 300)

    def first_mate(self, pairs, order, kind):
        """The first one of some kinds that suits a kind, or None."""
        return next((other for other in order if model.do_suit(pairs, kind, other)), None)

    def test_persons_of_each_kind_join_as_often_as_they_leave(self):
        for kinds, pairs, suits, weights in steady(6, 104):
            for kind, number in weights:
                leave = sum(other_number * fraction(meets(suits, weights, other, kind))
                            for other, other_number in weights)
                self.assertEqual(number * fraction(joins(suits, weights, kind)), leave)

    def test_against_the_shares_of_short_lines(self):
        for kinds, pairs, suits, weights in steady(3, 105):
            lines = model.lines_up_to(kinds, pairs, 4 if len(kinds) < 4 else 3)
            empty = weighed.all_orders(kinds, pairs, weights)[0][1]
            parts = [(line, empty * weighed.product(kinds, pairs, weights, line)) for line in lines]
            rest = 1 - sum(part for _, part in parts)
            for kind in kinds:
                for first in kinds:
                    known = sum(part for line, part in parts if self.first_mate(pairs, line, kind) == first)
                    found = fraction(meets(suits, weights, kind, first))
                    self.assertLessEqual(known, found)
                    self.assertLessEqual(found, known + rest)

    def test_as_they_are_written(self):
        self.assertEqual([repr(meets(R, WEIGHTS, "c", first)) for first in "abc"],
                         ["Ratio(0, 1)", "Ratio(3, 8)", "Ratio(1, 4)"])
        self.assertEqual([repr(joins(R, WEIGHTS, kind)) for kind in "abc"],
                         ["Ratio(5, 8)", "Ratio(9, 16)", "Ratio(3, 8)"])


class AskedAgain(Keeping, unittest.TestCase):
    def test_the_same_each_time(self):
        told = [[repr(call()) for call in calls(suits, weights)] for _, _, suits, weights in steady(2, 106)]
        for _ in range(2):
            again = [[repr(call()) for call in calls(suits, weights)] for _, _, suits, weights in steady(2, 106)]
            self.assertEqual(again, told)

    def test_weights_sets_and_lines_that_are_changed_in_place(self):
        weights, members, line = list(WEIGHTS), ["a", "c"], ["a", "c"]
        first = [repr(waiting(R, weights, members)), repr(share(R, weights, line)), repr(mean(R, weights))]
        weights[2] = ("c", 3)
        members.pop()
        line.append("a")
        self.assertEqual([repr(waiting(R, weights, members)), repr(share(R, weights, line)), repr(mean(R, weights))],
                         [repr(waiting(R, [("a", 1), ("b", 2), ("c", 3)], ["a"])),
                          repr(share(R, [("a", 1), ("b", 2), ("c", 3)], ["a", "c", "a"])),
                          repr(mean(R, [("a", 1), ("b", 2), ("c", 3)]))])
        weights[2] = ("c", 1)
        self.assertEqual(self.raised(Crowded, mean, R, weights).members, ["b"])
        weights[:] = WEIGHTS
        members.append("c")
        line.pop()
        self.assertEqual([repr(waiting(R, weights, members)), repr(share(R, weights, line)), repr(mean(R, weights))],
                         first)
        self.assertEqual((weights, members, line), (WEIGHTS, ["a", "c"], ["a", "c"]))


if __name__ == "__main__":
    unittest.main()
