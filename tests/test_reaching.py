"""[81], [11]: the fewest newcomers from one line to another one, and the papers that show that none lead there."""

import random
import unittest

from suitedpairs.reaching import are_never, fewest, kept
from suitedpairs.stuck import leave
from suitedpairs.suits import Suits
from tests import model
from tests.test_stuck import is_stuck
from tests.values import Keeping, all_lists_up_to, nested, odd_values

R = Suits(["a", "b", "c"], [("a", "b"), ("b", "c"), ("c", "c")])
FREE = Suits(["a", "b", "c"], [])


def kept_of(line, goal, many):
    """The persons that stay for the first items of the goal, by the words of the document."""
    items = goal[:many]
    chosen = []
    for kind in set(items):
        places = [place for place, other in enumerate(line) if other == kind]
        if len(places) < items.count(kind):
            return None
        chosen.extend(places[len(places) - items.count(kind):])
    chosen = sorted(chosen)
    return chosen if [line[place] for place in chosen] == items else None


def greatest_stuck(kinds, pairs, line, stay):
    """The greatest set of stuck persons: all others, without those whom nothing holds, as long as there are any."""
    persons = [person for person in range(len(line)) if person not in stay]
    while True:
        holders = sorted(persons + stay)
        held = [person for person in persons if is_held(kinds, pairs, line, holders, person)]
        if held == persons:
            return persons
        persons = held


def is_held(kinds, pairs, line, holders, person):
    """Whether each kind that suits a person suits an earlier holder."""
    return all(any(holder < person and model.do_suit(pairs, kind, line[holder]) for holder in holders)
               for kind in kinds if model.do_suit(pairs, kind, line[person]))


def answers(kinds, pairs, line, goal):
    """For each number from 0 on, the stuck persons, or None where not so many can stay."""
    found = []
    for many in range(len(goal) + 1):
        stay = kept_of(line, goal, many)
        found.append(None if stay is None else greatest_stuck(kinds, pairs, line, stay))
    return found


def ways(kinds, pairs, line, most):
    """All lines that rows of at most so many newcomers lead to, with the fewest newcomers."""
    found = {tuple(line): 0}
    now = [line]
    for many in range(1, most + 1):
        then = []
        for one in now:
            for kind in kinds:
                other = model.after(pairs, one, [kind])
                if tuple(other) not in found:
                    found[tuple(other)] = many
                    then.append(other)
        now = then
    return found


def made_cases(seed, each, lengths):
    """Relations, lines, and goals: what rows lead to, ends of the line with more, other lines, the line itself."""
    chance = random.Random(seed)
    for kinds, pairs in model.small_relations() + model.large_relations(each):
        suits = Suits(kinds, pairs)
        for most in lengths:
            line = model.random_line(chance, kinds, pairs, most)
            row = model.random_row(chance, kinds, chance.randint(1, most))
            goals = [model.after(pairs, line, row), model.random_line(chance, kinds, pairs, most), [], list(line)]
            goals.append(line[len(line) // 3:] + line[-1:] * 2)
            goals.append(line[len(line) // 2:])
            for goal in goals:
                if model.is_line(pairs, goal):
                    yield kinds, pairs, suits, line, goal


class Kept(Keeping, unittest.TestCase):
    def test_all_short_lines_and_goals(self):
        seen = [0, 0]
        for line in all_lists_up_to(["a", "b", "c"], 4):
            for goal in all_lists_up_to(["a", "b", "c"], 3):
                for many in range(len(goal) + 1):
                    wanted = kept_of(line, goal, many)
                    self.assertEqual(repr(kept(line, goal, many)), repr(wanted))
                    seen[wanted is None] += 1
        self.assertGreater(min(seen), 4000)

    def test_longer_lines(self):
        for kinds, pairs, suits, line, goal in made_cases(71, 3, (12, 40)):
            for many in range(len(goal) + 1):
                self.assertEqual(repr(kept(line, goal, many)), repr(kept_of(line, goal, many)))

    def test_the_longest_lines(self):
        places = list(range(200))
        line = ["a", "b"] * 100
        self.assertEqual(kept(line, line, 200), places)
        self.assertEqual(kept(line, line, 0), [])
        self.assertEqual(kept(line, line, 100), places[100:])
        self.assertEqual(kept(line, line, 101), None)
        self.assertEqual(kept(["a"] * 200, ["a"] * 150, 150), places[50:])
        self.assertEqual(kept(["a"] * 200, ["a"] * 150, 149), places[51:])
        self.assertEqual(kept(["a"] * 149, ["a"] * 150, 150), None)
        self.assertEqual(kept(["a"] * 149 + ["b"], ["a"] * 150, 149), places[:149])

    def test_persons_of_the_line_first_and_then_others(self):
        line, goal = ["a", "c", "a"], ["c", "a", "b", "c"]
        self.assertEqual([kept(line, goal, many) for many in range(5)], [[], [1], [1, 2], None, None])

    def test_more_of_a_kind_than_the_line_has(self):
        self.assertEqual([kept(["a"], ["a", "a"], many) for many in range(3)], [[], [0], None])
        self.assertEqual([kept([], ["a"], many) for many in range(2)], [[], None])
        self.assertEqual([kept(["a", "a"], ["b", "a"], many) for many in range(3)], [[], None, None])

    def test_the_right_persons_in_another_order(self):
        self.assertEqual([kept(["a", "b"], ["b", "a"], many) for many in range(3)], [[], [1], None])
        line = ["a", "b", "a"]
        self.assertEqual([kept(line, line, many) for many in range(4)], [[], [2], None, [0, 1, 2]])
        self.assertEqual([kept(["a", "b", "a"], ["a", "b"], many) for many in range(3)], [[], [2], None])
        self.assertEqual([kept(["b", "b", "a"], ["a", "b"], many) for many in range(3)], [[], [2], None])

    def test_none_and_all(self):
        for line in all_lists_up_to(["a", "b"], 4):
            self.assertEqual(kept(line, line, len(line)), list(range(len(line))))
            self.assertEqual(kept(line, line, 0), [])
            self.assertEqual(kept(line, [], 0), [])

    def test_of_each_kind_the_last_persons(self):
        self.assertEqual(kept(["a", "a", "b", "a"], ["b", "a"], 2), [2, 3])
        self.assertEqual(kept(["a", "a", "b", "a"], ["a", "b", "a"], 3), [1, 2, 3])
        self.assertEqual(kept(["a", "a", "b", "b"], ["a", "b"], 2), [1, 3])
        self.assertEqual(kept(["b", "a", "b", "a"], ["b"], 1), [2])


class Fewest(unittest.TestCase):
    def assert_fewest(self, kinds, pairs, suits, line, goal):
        """A row of as many newcomers as the point tells, or the papers that it tells; returns the word."""
        stuck = answers(kinds, pairs, line, goal)
        word, found = fewest(suits, line, goal)
        if [] in stuck:
            most = max(many for many, persons in enumerate(stuck) if persons == [])
            self.assertEqual(word, "row")
            self.assertEqual(len(found), len(line) + len(goal) - 2 * most)
            self.assertTrue(set(found) <= set(kinds))
            self.assertEqual(model.after(pairs, line, found), goal)
            self.assertIs(are_never(suits, line, goal, [None] * (len(goal) + 1)), False)
        else:
            self.assertEqual((word, found), ("never", stuck))
            self.assertIs(are_never(suits, line, goal, found), True)
        return word

    def test_short_lines_and_goals(self):
        words = []
        for kinds, pairs in model.small_relations():
            suits = Suits(kinds, pairs)
            lines = model.lines_up_to(kinds, pairs, 3)
            for line in lines:
                for goal in lines:
                    words.append(self.assert_fewest(kinds, pairs, suits, line, goal))
        self.assertGreater(min(words.count("row"), words.count("never")), 1000)

    def test_longer_lines(self):
        words = [self.assert_fewest(*case) for case in made_cases(72, 3, (8, 25))]
        self.assertGreater(min(words.count("row"), words.count("never")), 100)

    def test_the_longest_lines(self):
        chance = random.Random(73)
        for kinds, pairs in model.large_relations(2)[:14:2]:
            suits = Suits(kinds, pairs)
            line = model.random_line(chance, kinds, pairs, 200)
            goal = model.after(pairs, line, model.random_row(chance, kinds, 60))
            word, row = fewest(suits, line, goal)
            self.assertEqual((word, model.after(pairs, line, row)), ("row", goal))
            self.assertLessEqual(len(row), 60)

    def test_against_all_rows(self):
        said = []
        for at, (kinds, pairs) in enumerate(model.small_relations()):
            suits = Suits(kinds, pairs)
            lines = model.lines_up_to(kinds, pairs, 2)
            for line in lines:
                found = ways(kinds, pairs, line, 5 if at % 3 == 0 else 4)
                for goal in lines:
                    word, told = fewest(suits, line, goal)
                    self.assertEqual(len(told) if word == "row" else None, found.get(tuple(goal)))
                    said.append(word)
        self.assertGreater(min(said.count("row"), said.count("never")), 100)

    def test_against_all_rows_from_longer_lines(self):
        chance = random.Random(74)
        for kinds, pairs in chance.sample(model.small_relations(), 20):
            suits = Suits(kinds, pairs)
            lines = model.lines_up_to(kinds, pairs, 3)
            for line in chance.sample(lines, min(len(lines), 3)):
                found = ways(kinds, pairs, line, 6)
                for goal in lines:
                    word, told = fewest(suits, line, goal)
                    self.assertEqual(len(told) if word == "row" else None, found.get(tuple(goal)))

    def test_from_a_line_to_itself(self):
        for kinds, pairs in model.small_relations() + model.large_relations():
            suits = Suits(kinds, pairs)
            for line in model.lines_up_to(kinds, pairs, 2):
                self.assertEqual(fewest(suits, line, line), ("row", []))
                self.assertEqual(fewest(suits, line, list(line)), ("row", []))
        self.assertEqual(fewest(R, ["a"] * 200, ["a"] * 200), ("row", []))

    def test_to_the_empty_line(self):
        for kinds, pairs in model.small_relations() + model.large_relations(1):
            suits = Suits(kinds, pairs)
            lonely = [kind for kind in kinds if not model.mates(kinds, pairs, [kind])]
            for line in model.lines_up_to(kinds, pairs, 3 if len(kinds) < 5 else 1):
                word, found = fewest(suits, line, [])
                if any(kind in lonely for kind in line):
                    self.assertEqual((word, found), ("never", [greatest_stuck(kinds, pairs, line, [])]))
                else:
                    self.assertEqual((word, len(found)), ("row", len(line)))
                    self.assertEqual(model.after(pairs, line, found), [])

    def test_from_the_empty_line(self):
        for kinds, pairs in model.small_relations():
            suits = Suits(kinds, pairs)
            for goal in model.lines_up_to(kinds, pairs, 3):
                self.assertEqual(fewest(suits, [], goal), ("row", goal))

    def assert_row(self, suits, line, goal, many):
        """A row of so many newcomers leads to the goal."""
        word, row = fewest(suits, line, goal)
        self.assertEqual((word, len(row)), ("row", many))
        self.assertEqual(model.after(suits.pairs(), line, row), goal)

    def test_150_of_200_are_wanted(self):
        self.assert_row(R, ["a"] * 200, ["a"] * 150, 50)
        self.assert_row(R, ["a"] * 150, ["a"] * 200, 50)
        suits = Suits(["a", "b", "c", "d"], [("a", "d"), ("b", "d"), ("b", "c")])
        line = ["a", "b"] * 100
        self.assert_row(suits, line, line[50:], 50)
        self.assert_row(suits, line, line, 0)
        self.assert_row(suits, line, line[50:] + ["a"] * 50, 50 + 50)
        # The last person of b is behind all of a, and those before it can leave by themselves.
        self.assert_row(suits, line, ["a"] * 100 + ["b"], 99)
        self.assert_row(suits, line, ["a"] * 100 + ["b"] * 50, 99 + 49)
        # Only d suits a, so whoever is of a is stuck behind a person of b that stays: just the last one can stay.
        self.assert_row(suits, line, ["b"] * 100, 200 + 100 - 2)

    def test_never_with_200_persons(self):
        line, goal = ["a", "b"] * 100, ["a"] * 100 + ["b"] * 50
        suits = Suits(["a", "b", "d"], [("a", "d"), ("d", "d")])
        # Nobody suits b, so whoever is of b and is not kept is stuck.
        word, papers = fewest(suits, line, goal)
        lonely = list(range(1, 200, 2))
        self.assertEqual((word, papers), ("never", [lonely] * 101 + [lonely[:-1]] + [None] * 49))
        self.assertIs(are_never(suits, line, goal, papers), True)
        self.assertIs(are_never(suits, line, goal, papers[::-1]), False)

    def test_papers_with_and_without_persons(self):
        suits = Suits(["a", "b", "x"], [("a", "b")])
        self.assertEqual(fewest(suits, ["x"], []), ("never", [[0]]))
        self.assertEqual(fewest(suits, ["x"], ["a"]), ("never", [[0], None]))
        self.assertEqual(fewest(suits, ["x", "a"], ["a", "x"]), ("never", [[0], [0], None]))
        self.assertEqual(fewest(suits, ["a", "x", "a"], ["a", "a"]), ("never", [[1], [1], [1]]))
        self.assertEqual(fewest(suits, ["a", "x", "a"], ["x", "a"]), ("row", ["b"]))
        self.assertEqual(fewest(suits, ["x", "x"], ["x"]), ("never", [[0, 1], [0]]))

    def test_as_many_as_can_stay_and_not_more(self):
        # Two can stay, but then the b before them is stuck; one can stay, and nobody is.
        kinds, pairs = ["a", "b", "c"], [("a", "c"), ("b", "c")]
        suits = Suits(kinds, pairs)
        self.assertEqual(fewest(suits, ["a", "b", "a"], ["a", "a"])[0], "row")
        self.assert_fewest(kinds, pairs, suits, ["a", "b", "a"], ["a", "a"])
        self.assertEqual(len(fewest(suits, ["a", "b", "a"], ["a", "a"])[1]), 3)
        self.assertEqual(leave(suits, ["a", "b", "a"], [0, 2]), ("stuck", [1]))

    def test_on_to_a_third_line(self):
        chance = random.Random(75)
        for kinds, pairs, suits, line, goal in list(made_cases(76, 2, (6,)))[::3]:
            third = model.random_line(chance, kinds, pairs, 5)
            one, other, whole = fewest(suits, line, goal), fewest(suits, goal, third), fewest(suits, line, third)
            if one[0] == other[0] == "row":
                self.assertEqual(whole[0], "row")
                self.assertLessEqual(len(whole[1]), len(one[1]) + len(other[1]))


class AreNever(Keeping, unittest.TestCase):
    def is_never(self, kinds, pairs, line, goal, thing):
        """Whether a list is what are_never asks for, by the words of the document; its items are lists or None."""
        if len(thing) != len(goal) + 1:
            return False
        for many, paper in enumerate(thing):
            stay = kept_of(line, goal, many)
            if (stay is None) != (paper is None):
                return False
            if stay is not None and not is_stuck(kinds, pairs, line, stay, paper):
                return False
        return True

    def never_cases(self, seed, lengths=(3, 6)):
        for kinds, pairs, suits, line, goal in made_cases(seed, 3, lengths):
            word, papers = fewest(suits, line, goal)
            if word == "never":
                yield kinds, pairs, suits, line, goal, papers

    def test_parts_of_the_persons(self):
        said = []
        for kinds, pairs, suits, line, goal, papers in self.never_cases(77):
            self.assert_truth(are_never(suits, line, goal, papers), True)
            for many, paper in enumerate(papers):
                for part in [] if paper is None else model.subsets(paper):
                    thing = papers[:many] + [part] + papers[many + 1:]
                    wanted = self.is_never(kinds, pairs, line, goal, thing)
                    self.assert_truth(are_never(suits, line, goal, thing), wanted)
                    said.append(wanted)
        self.assertGreater(min(said.count(True), said.count(False)), 100)

    def test_all_lists_of_short_papers(self):
        for suits, line, goal in ((R, ["a", "a"], ["a"]), (FREE, ["a", "b"], ["b"]), (FREE, ["a"], ["b"]),
                                  (Suits(["a", "b", "c"], [("a", "c")]), ["b", "a"], ["a"]), (FREE, [], ["a"])):
            papers = [None] + all_lists_up_to([0, 1, 2], 2)
            for thing in all_lists_up_to(papers, 3):
                wanted = self.inside(line, thing) and self.is_never(suits.kinds(), suits.pairs(), line, goal, thing)
                self.assert_truth(are_never(suits, line, goal, thing), wanted)

    def inside(self, line, thing):
        """Whether all indexes in a list of papers are those of persons."""
        return all(person < len(line) for paper in thing if paper for person in paper)

    def test_a_paper_more_or_fewer_or_exchanged(self):
        seen = 0
        for kinds, pairs, suits, line, goal, papers in self.never_cases(78):
            for thing in (papers + [None], papers + papers[:1], papers[1:], papers[:-1], [None] + papers, [papers], [],
                          papers + papers):
                self.assert_truth(are_never(suits, line, goal, thing), False)
            for one in range(len(papers)):
                for other in range(one):
                    thing = list(papers)
                    thing[one], thing[other] = papers[other], papers[one]
                    wanted = self.is_never(kinds, pairs, line, goal, thing)
                    self.assert_truth(are_never(suits, line, goal, thing), wanted)
                    seen += not wanted
        self.assertGreater(seen, 100)

    def test_none_for_a_list_and_a_list_for_none(self):
        for kinds, pairs, suits, line, goal, papers in self.never_cases(79):
            for many, paper in enumerate(papers):
                for other in [None] if paper is not None else [[], [0], list(range(len(line))), [len(line) - 1]]:
                    thing = papers[:many] + [other] + papers[many + 1:]
                    self.assert_truth(are_never(suits, line, goal, thing), False)

    def test_an_index_more_or_fewer_or_in_another_order(self):
        for kinds, pairs, suits, line, goal, papers in self.never_cases(80):
            for many, paper in enumerate(papers):
                if paper is not None:
                    stay = kept_of(line, goal, many)
                    wrong = [[], paper + [len(line)], [-1] + paper, paper + paper[-1:], paper[:1] + paper, tuple(paper),
                             sorted(paper + stay[:1]) if stay else [], paper[::-1] if len(paper) > 1 else [], {}, "0",
                             0, [str(paper[0])] + paper[1:], [paper], [[person] for person in paper], paper + [None]]
                    for other in wrong:
                        thing = papers[:many] + [other] + papers[many + 1:]
                        self.assert_truth(are_never(suits, line, goal, thing), False)

    def test_truths_are_no_indexes(self):
        for papers, so in (([[0, 1]], True), ([[False, 1]], False), ([[0, True]], False), ([[False, True]], False),
                           ([[1]], True), ([[True]], False), ([[0]], True), ([[False]], False)):
            self.assert_truth(are_never(FREE, ["a", "b"], [], papers), so)

    def test_false_where_a_row_leads_to_the_goal(self):
        for kinds, pairs, suits, line, goal in made_cases(81, 2, (4,)):
            word, row = fewest(suits, line, goal)
            if word == "row":
                papers = [None if persons is None else persons or [0] for persons in answers(kinds, pairs, line, goal)]
                self.assert_truth(are_never(suits, line, goal, papers), False)
                self.assert_truth(are_never(suits, line, goal, row), False)
                self.assert_truth(are_never(suits, line, goal, ("never", papers)), False)

    def test_any_value(self):
        for thing in odd_values() + [nested(8), [nested(7)], tuple(nested(7))]:
            self.assert_truth(are_never(FREE, ["a"], [], thing), False)
            self.assert_truth(are_never(FREE, ["a"], ["b"], thing), False)
            # One of the odd values is the list of 0.
            stuck = thing.__class__ is list and thing == [0]
            self.assert_truth(are_never(FREE, ["a"], [], [thing]), stuck)
            self.assert_truth(are_never(FREE, ["a"], ["b"], [thing, None]), stuck)
            self.assert_truth(are_never(FREE, ["a"], ["b"], [[0], thing]), thing is None)
            plain = thing.__class__ is int and thing == 0
            self.assert_truth(are_never(FREE, ["a"], [], [[thing]]), plain)
            self.assert_truth(are_never(FREE, ["a"], ["b"], [[thing], None]), plain)
            self.assert_truth(are_never(FREE, ["a"], [], ([0], thing)), False)

    def test_other_containers(self):
        for thing in (([0],), {0: [0]}, [(0,)], [{0}], [{0: 1}], [range(1)], ["0"], [b"\x00"], [[[0]]], iter([[0]]),
                      None, "0", [[0], []], ("never", [[0]]), [0]):
            self.assert_truth(are_never(FREE, ["a"], [], thing), False)
        self.assert_truth(are_never(FREE, ["a"], [], [[0]]), True)


if __name__ == "__main__":
    unittest.main()
