"""[70], [10]: closed tables of nodes."""

import itertools
import random
import unittest

from suitedpairs.suits import Suits
from suitedpairs.tables import is_table
from tests import model, two_rows
from tests.values import Keeping, all_lists_up_to, nested, odd_values

AB = Suits(["a", "b"], [("a", "b")])
TABLE = [(["b", "a"], [], []), (["a"], [], ["a"]), (["b"], [], ["b"])]


def alike_rows(seed, lengths, most=60):
    """Relations with two rows that are alike, and the nodes that are met for them."""
    for kinds, pairs, suits, one, other in two_rows.made_rows(seed, lengths):
        (word, nodes), many = two_rows.compare(kinds, pairs, one, other)
        if word == "alike" and many <= most:
            yield kinds, pairs, suits, one, other, nodes


def copied(nodes):
    """Nodes with lists of their own."""
    return [tuple(list(part) for part in node) for node in nodes]


def closed(kinds, pairs, nodes):
    """Nodes, and all nodes to which they lead."""
    found = list(nodes)
    for node in found:
        found.extend(then for _, then, _, _ in two_rows.steps(kinds, pairs, node) if then not in found)
    return found


class Tables(Keeping, unittest.TestCase):
    def assert_like_the_model(self, kinds, pairs, suits, one, other, nodes):
        wanted = two_rows.is_table(kinds, pairs, one, other, nodes)
        self.assert_truth(is_table(suits, one, other, nodes), wanted)
        return wanted

    def test_nodes_that_are_met(self):
        for kinds, pairs in model.small_relations():
            suits = Suits(kinds, pairs)
            rows = all_lists_up_to(kinds, 2)
            for one, other in itertools.product(rows, rows):
                (word, nodes), _ = two_rows.compare(kinds, pairs, one, other)
                if word == "alike":
                    self.assert_truth(is_table(suits, one, other, nodes), True)
                    self.assert_truth(is_table(suits, one, other, nodes[::-1]), True)

    def test_any_order(self):
        chance = random.Random(71)
        found = 0
        for _, _, suits, one, other, nodes in alike_rows(72, (0, 2, 5, 9)):
            for _ in range(3):
                self.assert_truth(is_table(suits, one, other, chance.sample(nodes, len(nodes))), True)
            found += 1
        self.assertGreater(found, 150)

    def test_long_rows(self):
        found = 0
        for _, _, suits, one, other, nodes in alike_rows(73, (16,), 400):
            self.assert_truth(is_table(suits, one, other, nodes), True)
            self.assert_truth(is_table(suits, one, other, nodes[:-1]), False)
            found += 1
        self.assertGreater(found, 40)

    def test_rows_that_are_apart_have_none(self):
        found = 0
        for kinds, pairs in model.small_relations():
            suits = Suits(kinds, pairs)
            rows = all_lists_up_to(kinds, 2)
            for one, other in list(itertools.product(rows, rows))[::3]:
                if two_rows.compare(kinds, pairs, one, other)[0][0] == "apart":
                    nodes = closed(kinds, pairs, [(one, other, [])])
                    self.assert_truth(is_table(suits, one, other, nodes), False)
                    nodes = [node for node in nodes if two_rows.gap(pairs, node) is not None]
                    self.assert_truth(is_table(suits, one, other, nodes), False)
                    self.assert_truth(is_table(suits, one, other, [(one, other, [])]), False)
                    self.assert_truth(is_table(suits, one, other, []), False)
                    found += 1
        self.assertGreater(found, 1000)

    def test_a_node_left_out_or_twice(self):
        for _, _, suits, one, other, nodes in list(alike_rows(74, (1, 3, 6), 40))[::5]:
            for at, node in enumerate(nodes):
                self.assert_truth(is_table(suits, one, other, nodes[:at] + nodes[at + 1:]), False)
                self.assert_truth(is_table(suits, one, other, nodes + copied([node])), False)
                self.assert_truth(is_table(suits, one, other, nodes[:at + 1] + nodes[at:]), False)

    def test_one_node_more(self):
        said = []
        for kinds, pairs, suits, one, other, nodes in list(alike_rows(75, (1, 2, 3), 20))[::9]:
            for node in [one for one in two_rows.all_nodes(kinds, one, other) if one not in nodes][::9]:
                said.append(self.assert_like_the_model(kinds, pairs, suits, one, other, nodes + [node]))
        self.assertGreater(said.count(True), 50)
        self.assertGreater(said.count(False), 500)

    def test_all_that_nodes_more_lead_to(self):
        said = []
        for kinds, pairs, suits, one, other, nodes in list(alike_rows(76, (1, 2, 3), 20))[::12]:
            for more in [one for one in two_rows.all_nodes(kinds, one, other) if one not in nodes][::7]:
                wider = closed(kinds, pairs, nodes + [more])
                said.append(self.assert_like_the_model(kinds, pairs, suits, one, other, wider))
        self.assertGreater(said.count(True), 50)
        self.assertGreater(said.count(False), 50)

    def test_parts_of_all_nodes(self):
        chance = random.Random(77)
        for kinds, pairs in model.small_relations()[:10]:
            suits = Suits(kinds, pairs)
            for one, other in itertools.product(all_lists_up_to(kinds, 2), all_lists_up_to(kinds, 1)):
                nodes = two_rows.all_nodes(kinds, one, other)
                with_gap = [node for node in nodes if two_rows.gap(pairs, node) is not None]
                for thing in (nodes, with_gap, chance.sample(nodes, len(nodes) // 2)):
                    self.assert_like_the_model(kinds, pairs, suits, one, other, thing)

    def test_something_changed(self):
        said = []
        for kinds, pairs, suits, one, other, nodes in list(alike_rows(78, (2, 4, 7), 30))[::4]:
            for at, (first, last, members) in list(enumerate(nodes))[:8]:
                for node in ((last, first, members), (first[:-1], last, members), (first, last[1:], members),
                             (first[::-1], last, members), (first, last, members[:-1]), (first, last, members[1:]),
                             (first, last, sorted({*members, kinds[0]})), (one, last, members), (first, other, members),
                             (first, last, [])):
                    thing = nodes[:at] + copied([node]) + nodes[at + 1:]
                    if is_rest(node[0], one) and is_rest(node[1], other):
                        said.append(self.assert_like_the_model(kinds, pairs, suits, one, other, thing))
                    else:
                        self.assert_truth(is_table(suits, one, other, thing), False)
        self.assertIn(True, said)
        self.assertGreater(said.count(False), 1000)

    def test_nodes_of_other_rows(self):
        for _, _, suits, one, other, nodes in list(alike_rows(79, (2, 5)))[::2]:
            for first, last in ((other, one), (one[:-1], other), (one, other[1:]), (one + one[:1], other), (one, [])):
                if (first, last) != (one, other):
                    self.assert_truth(is_table(suits, first, last, nodes), False)
            # The first row's rests may be rests of a longer row, too, but the first node is missing.
            self.assert_truth(is_table(suits, one + one, other + other, nodes), one + other == [])


def is_rest(thing, row):
    """Whether a list is a part of a row, in its order."""
    return thing in model.subsets(row)


class Gaps(Keeping, unittest.TestCase):
    def test_small_ones(self):
        self.assert_truth(is_table(AB, ["b", "a"], [], TABLE), True)
        self.assert_truth(is_table(AB, ["a"], [], [(["a"], [], []), (["a"], [], ["a"]), ([], [], ["b"])]), False)
        self.assert_truth(is_table(AB, [], [], [([], [], []), ([], [], ["a"]), ([], [], ["b"])]), True)
        self.assert_truth(is_table(Suits(["a"], []), [], [], [([], [], []), ([], [], ["a"])]), True)
        self.assert_truth(is_table(Suits(["a"], []), ["a"], ["a"], [(["a"], ["a"], []), (["a"], ["a"], ["a"])]), True)

    def test_each_node_has_a_gap_but_one_does_not_follow(self):
        found = 0
        for kinds, pairs in model.small_relations():
            suits = Suits(kinds, pairs)
            for one, other in itertools.product(all_lists_up_to(kinds, 2), repeat=2):
                nodes = closed(kinds, pairs, [(one, other, [])])
                gaps = [two_rows.gap(pairs, node) for node in nodes]
                if gaps[0] == ([], []) and None not in gaps:
                    wanted = two_rows.compare(kinds, pairs, one, other)[0][0] == "alike"
                    self.assert_truth(is_table(suits, one, other, nodes), wanted)
                    found += not wanted
        self.assertGreater(found, 300)

    def test_a_node_that_leads_only_to_itself(self):
        # By a it leads to itself, a is written in both rests, and the b in only one of the ends stands before it.
        suits = Suits(["a", "b"], [("b", "b")])
        row = ["b", "b"]
        nodes = closed(["a", "b"], [("b", "b")], [(row, row, [])])
        self.assert_truth(is_table(suits, row, row, nodes), True)
        self.assert_truth(is_table(suits, row, row, nodes + [(["b"], [], ["a", "b"])]), False)
        self.assert_truth(is_table(suits, row, row, nodes + [([], ["b"], ["a", "b"])]), False)
        # Where a is written behind an a, nothing changes.
        free = Suits(["a"], [])
        self.assert_truth(is_table(free, ["a"], ["a"], [(["a"], ["a"], []), (["a"], ["a"], ["a"])]), True)
        self.assert_truth(is_table(free, ["a"], ["a"], [(["a"], ["a"], []), (["a"], ["a"], ["a"]),
                                                        (["a"], [], ["a"])]), True)

    def test_the_gap_of_the_first_node(self):
        # Every node that is met follows from the one before it, but the ends of the two rows are not equal.
        free = Suits(["a"], [])
        self.assert_truth(is_table(free, ["a"], [], [(["a"], [], []), (["a"], [], ["a"])]), False)
        self.assert_truth(is_table(free, [], ["a"], [([], ["a"], []), ([], ["a"], ["a"])]), False)


class AnyValue(Keeping, unittest.TestCase):
    def test_odd_values(self):
        for thing in odd_values() + [nested(8), [nested(7)], [(nested(6), [], [])], [([], nested(6), [])]]:
            for value in (thing, [thing], TABLE + [thing], [thing] + TABLE, (thing,), {0: thing}):
                self.assert_truth(is_table(AB, ["b", "a"], [], value), False)
                self.assert_truth(is_table(AB, [], [], value), False)
            for at, node in enumerate(TABLE):
                for part in range(3):
                    odd = node[:part] + (thing,) + node[part + 1:]
                    self.assert_truth(is_table(AB, ["b", "a"], [], TABLE[:at] + [odd] + TABLE[at + 1:]), False)
                    odd = node[:part] + ([thing],) + node[part + 1:]
                    self.assert_truth(is_table(AB, ["b", "a"], [], TABLE[:at] + [odd] + TABLE[at + 1:]), False)

    def test_other_lengths(self):
        for at, node in enumerate(TABLE):
            for odd in ((), node[:2], node[:1], node + ([],), node + (None,), node[1:], node * 2, (node,), [node]):
                self.assert_truth(is_table(AB, ["b", "a"], [], TABLE[:at] + [odd] + TABLE[at + 1:]), False)

    def test_other_containers(self):
        self.assert_truth(is_table(AB, ["b", "a"], [], tuple(TABLE)), False)
        self.assert_truth(is_table(AB, ["b", "a"], [], iter(TABLE)), False)
        self.assert_truth(is_table(AB, ["b", "a"], [], dict(enumerate(TABLE))), False)
        self.assert_truth(is_table(AB, ["b", "a"], [], [TABLE]), False)
        for at, node in enumerate(TABLE):
            for odd in (list(node), {0: node}, tuple(tuple(part) for part in node),
                        tuple("".join(part) for part in node),
                        (node[0], node[1], set(node[2])), (node[0], node[1], "".join(node[2])), str(node),
                        (dict.fromkeys(node[0]), node[1], node[2]), (node[0], (), node[2]), (node[0], None, node[2])):
                self.assert_truth(is_table(AB, ["b", "a"], [], TABLE[:at] + [odd] + TABLE[at + 1:]), False)

    def test_what_is_no_node(self):
        for odd in ((["c"], [], []), (["a", "b"], [], []), (["b", "b"], [], []), (["b", "a", "a"], [], []),
                    (["b"], ["a"], []), (["b"], [], ["c"]), (["b"], [], ["b", "a"]), (["b"], [], ["b", "b"]),
                    (["b"], [], [["b"]]), (["b"], [], ["B"]), (["b"], [], [""]), ([["b"]], [], ["b"]),
                    (["b"], [None], ["b"])):
            self.assert_truth(is_table(AB, ["b", "a"], [], TABLE + [odd]), False)
            self.assert_truth(is_table(AB, ["b", "a"], [], TABLE[:2] + [odd]), False)

    def test_all_but_the_rest_or_the_set_would_do(self):
        # Each of these nodes has a gap and leads only to itself, as it should.
        suits = Suits(["a", "b"], [("b", "b")])
        row = ["a"]
        nodes = [(row, row, kinds) for kinds in ([], ["a"], ["b"], ["a", "b"])]
        self.assert_truth(is_table(suits, row, row, nodes), True)
        for node, so in ((([], [], ["a", "b"]), True), ((["a"], [], ["a", "b"]), True), (([], ["a"], ["a", "b"]), True),
                         ((["a", "a"], ["a"], ["a", "b"]), False), ((["a"], ["a", "a"], ["a", "b"]), False),
                         ((["a"], ["a"], ["b", "a"]), False), ((["a"], ["a"], ["a", "b", "b"]), False)):
            self.assert_truth(is_table(suits, row, row, nodes + [node]), so)

    def test_many_nodes(self):
        self.assert_truth(is_table(AB, ["b", "a"], [], TABLE * 1000), False)
        self.assert_truth(is_table(AB, ["b", "a"], [], [TABLE[0]] * 5000), False)
        self.assert_truth(is_table(AB, ["b", "a"], [], [()] * 24000), False)


if __name__ == "__main__":
    unittest.main()
