"""[3]: arguments stay, what is returned belongs to the caller, and results depend on the arguments alone."""

import copy
import random
import unittest

from suitedpairs.alike import compare, separates
from suitedpairs.crowds import crowd, excess, is_crowd, surplus
from suitedpairs.distances import common, course, distance, is_common
from suitedpairs.films import backward, cut, finish, is_complete, play, rewind
from suitedpairs.lines import after, come, is_line, is_row, moments
from suitedpairs.pairing import by_newcomers, by_persons, parted, partners
from suitedpairs.papers import are_links, are_right, fault
from suitedpairs.reaching import are_never, fewest, kept
from suitedpairs.rounds import again, cycle, is_cycle
from suitedpairs.shares import full, joins, length, mean, meets, share, waiting
from suitedpairs.stuck import are_stuck, leave
from suitedpairs.suits import Suits
from suitedpairs.sums import total
from suitedpairs.tables import is_table
from suitedpairs.trails import given_up, trail
from tests import model, weighed
from tests.values import Keeping, spoil

KINDS = ["a", "b", "c"]
RELATIONS = [
    Suits(KINDS, [("a", "b"), ("b", "c"), ("c", "c")]), Suits(KINDS, [("a", "b"), ("a", "c"), ("b", "b")]),
    Suits.each(KINDS), Suits(KINDS, []), Suits(KINDS, [("a", "a"), ("b", "b"), ("c", "c")]),
    Suits(KINDS + ["d"], [("a", "b"), ("b", "c"), ("c", "c"), ("a", "d")]),
]
LINES = [[], ["a"], ["a", "a"], ["c"], ["b", "b"]]
ROWS = [[], ["a"], ["a", "b"], ["b", "a"], ["a", "c", "b", "b"], ["b", "b", "a", "c"], ["c", "c", "a", "b", "a"],
        ["a", "b", "c", "a", "b", "c"]]
LINKS = [[], [None], [1, 0], [None, None], [2, 3, 0, 1], [3, 2, 1, 0], [None] * 4, [1, 0, 3, 2, None], [True, 0]]
EVENTS = [[], [("come", "a")], [("come", "a"), ("go", "a")], [("come", "b"), ("come", "b"), ("go", "b")],
          [("come", "c"), ("come", "a"), ("go", "c"), ("come", "b")]]
PARTS = [[], [(0, 0)], [(0, 0), (1, 1)], [(0, 1)], [(1, 0)], [(False, 0)], [[0, 0]]]
SETS = [[], ["a"], ["b"], ["c"], ["a", "b"], ["b", "a"], ["a", "c"], ["x"], ["a", "a"], [["a"]]]
CYCLES = [(0, 1), (0, 2), (1, 1), (False, 1), (0, True), (1, 2), None]
NODES = [[], [([], [], [])], [(["a"], ["a"], []), (["a"], ["a"], ["a"])], [(["b", "a"], [], []), (["a"], [], ["a"])]]
KEPT = [[], [0], [1], [0, 1]]
PAPERS = [[], [None], [[0]], [[0], None], [[0], [1], None], [[0, 1], [0]], [[False]], [None, None]]
NUMBERS = [(1, 1, 1, 1), (1, 2, 2, 1), (5, 9, 6, 2), (4, 9, 6, 2), (1000, 999, 3, 1), (9, 5, 1, 1), (300, 200, 200, 1)]


def all_moments(suits, line, row):
    """The moments of a walk as a list."""
    return list(moments(suits, line, row))


def distance_of(suits, one, other):
    """The distance of two lines, which needs no relation."""
    return distance(one, other)


def common_of(suits, one, other):
    """A longest common part of two lines, which needs no relation."""
    return common(one, other)


def is_common_of(suits, one, other, thing):
    """Whether a value is a longest common part, which needs no relation."""
    return is_common(one, other, thing)


def kept_of(suits, line, goal, many):
    """Who is kept, which needs no relation."""
    return kept(line, goal, many)


def again_and_again(suits, line, row):
    """The lines after no rounds, some rounds and very many rounds."""
    return [again(suits, line, row, times) for times in (0, 1, 5, 10 ** 18)]


def compare_within_five(suits, one, other):
    """What compare returns if at most five nodes are met."""
    return compare(suits, one, other, limit=5)


def cases(suits):
    """Calls with what they are passed behind the relation, one list of lists of arguments for each."""
    lines = [line for line in LINES if model.is_line(suits.pairs(), line)]
    found = {
        is_line: [[one] for one in LINES + ROWS], is_row: [[one] for one in LINES + ROWS],
        come: [[line, kind] for line in lines for kind in KINDS],
        is_complete: [[row] for row in ROWS], backward: [[row] for row in ROWS],
        cut: [[row, at] for row in ROWS for at in range(len(row) + 1)],
        finish: [[line] for line in lines], rewind: [[row] for row in ROWS],
        play: [[line, events] for line in lines for events in EVENTS],
        are_right: [[row, links] for row in ROWS for links in LINKS],
        fault: [[row, links] for row in ROWS for links in LINKS if are_links(row, links)],
    }
    for call in (after, all_moments, partners, by_newcomers, by_persons, parted):
        found[call] = [[line, row] for line in lines for row in ROWS]
    return {**found, **cases_of_differences(lines), **cases_of_crowds(suits, lines), **cases_of_rounds(lines),
            **cases_of_two_rows(lines), **cases_of_stuck(lines), **cases_of_reaching(lines),
            **cases_of_chances(suits, lines)}


def cases_of_differences(lines):
    """Calls of distances and trails."""
    return {
        distance_of: [[one, other] for one in lines for other in lines],
        common_of: [[one, other] for one in lines for other in lines],
        is_common_of: [[one, other, thing] for one in lines for other in lines for thing in PARTS],
        course: [[one, other, row] for one in lines for other in lines for row in ROWS[::2]],
        trail: [[line, row, at, kind] for line in lines for row in ROWS for at in {0, len(row)} for kind in KINDS],
        given_up: [[line, row, place] for line in lines for row in ROWS for place in range(len(line))],
    }


def cases_of_crowds(suits, lines):
    """Calls of crowds."""
    calm = suits.calm_sets()
    return {
        excess: [[row, kinds] for row in ROWS for kinds in calm],
        surplus: [[line, kinds] for line in lines for kinds in calm],
        crowd: [[row] for row in ROWS], is_crowd: [[row, thing] for row in ROWS for thing in SETS],
    }


def cases_of_rounds(lines):
    """Calls of rounds."""
    return {
        cycle: [[line, row] for line in lines for row in ROWS],
        again_and_again: [[line, row] for line in lines for row in ROWS],
        is_cycle: [[line, row, thing] for line in lines for row in ROWS for thing in CYCLES],
    }


def cases_of_two_rows(lines):
    """Calls of tables and alike."""
    return {
        separates: [[one, other, line] for one in ROWS for other in ROWS[::2] for line in lines],
        compare: [[one, other] for one in ROWS for other in ROWS[::2]],
        compare_within_five: [[one, other] for one in ROWS for other in ROWS[::2]],
        is_table: [[one, other, nodes] for one in ROWS for other in ROWS[:3] for nodes in NODES],
    }


def cases_of_stuck(lines):
    """Calls of stuck, with kept persons that the line has."""
    fit = [[line, kept] for line in lines for kept in KEPT if len(line) > max(kept, default=-1)]
    return {leave: fit, are_stuck: [[*one, thing] for one in fit for thing in [*KEPT, [True], (0,)]]}


def cases_of_reaching(lines):
    """Calls of reaching, from each line to each line."""
    ways = [[line, goal] for line in lines for goal in lines]
    return {
        kept_of: [[*way, many] for way in ways for many in range(len(way[1]) + 1)],
        fewest: ways, are_never: [[*way, thing] for way in ways for thing in PAPERS],
    }


def cases_of_chances(suits, lines):
    """Calls of sums and shares."""
    weights = [list(zip(suits.kinds(), numbers)) for numbers in NUMBERS]
    sets = [kinds for kinds in model.subsets(suits.kinds()) if weighed.is_peaceful(suits.pairs(), kinds)]
    return {
        total: [[one, kinds] for one in weights for kinds in sets],
        full: [[one] for one in weights], mean: [[one] for one in weights],
        share: [[one, line] for one in weights[1::2] for line in lines],
        waiting: [[one, kinds] for one in weights[1::2] for kinds in [[], KINDS, *sets[1:4]]],
        length: [[one, many] for one in weights[1::2] for many in (0, 3)],
        meets: [[one, *two] for one in weights[1::2] for two in (["a", "b"], ["b", "a"], ["c", "c"])],
        joins: [[one, kind] for one in weights[1::2] for kind in KINDS],
    }


def all_cases():
    """All calls, relations and arguments."""
    return [(call, suits, arguments) for suits in RELATIONS for call, lists in cases(suits).items()
            for arguments in lists]


def told(call, *arguments):
    """What a call returns or raises, as a string."""
    try:
        return repr(call(*arguments))
    except ValueError as error:
        return repr((error.__class__.__name__, vars(error)))


def does_raise(call, *arguments):
    """Whether a call raises an error."""
    try:
        call(*arguments)
    except ValueError:
        return True
    return False


class KeepsLists(Keeping, unittest.TestCase):
    def test_what_is_passed_and_what_is_returned(self):
        for call, suits, arguments in all_cases():
            if not does_raise(call, suits, *copy.deepcopy(arguments)):
                with self.subTest(call=call.__name__, suits=suits, arguments=arguments):
                    self.assert_keeps(call, suits, *copy.deepcopy(arguments))

    def test_links_of_a_row(self):
        for row in ROWS:
            for links in LINKS:
                self.assert_keeps(are_links, list(row), list(links))

    def test_arguments_stay_when_an_error_is_raised(self):
        for call, suits, arguments in all_cases():
            given = copy.deepcopy(arguments)
            first = told(call, suits, *given)
            self.assertEqual(given, arguments)
            self.assertEqual(told(call, suits, *given), first)

    def test_the_relation_stays(self):
        for suits in RELATIONS:
            before = repr((suits, suits.kinds(), suits.pairs(), suits.lonely(), suits.calm_sets()))
            for call, lists in cases(suits).items():
                for arguments in lists:
                    told(call, suits, *copy.deepcopy(arguments))
            self.assertEqual(repr((suits, suits.kinds(), suits.pairs(), suits.lonely(), suits.calm_sets())), before)


class DependsOnArgumentsAlone(unittest.TestCase):
    def fresh(self, call, suits, arguments):
        """What a call tells of copies, for a relation of its own."""
        return told(call, Suits(suits.kinds(), suits.pairs()), *copy.deepcopy(arguments))

    def test_asked_in_mixed_order(self):
        chance = random.Random(21)
        asked = all_cases()
        wanted = [self.fresh(*one) for one in asked]
        for _ in range(2):
            for at in chance.sample(range(len(asked)), len(asked)):
                call, suits, arguments = asked[at]
                self.assertEqual(told(call, suits, *arguments), wanted[at])
        for at, (call, suits, arguments) in enumerate(asked):
            self.assertEqual(told(call, suits, *arguments), wanted[at])

    def test_lists_that_are_changed_in_place(self):
        for suits in RELATIONS:
            for call, lists in cases(suits).items():
                for first, second in zip(lists, lists[1:] + lists[:1]):
                    # One by one, so that no list is passed in twice.
                    given = [copy.deepcopy(one) for one in first]
                    wanted = self.fresh(call, suits, first)
                    self.assertEqual(told(call, suits, *given), wanted)
                    replace(given, second)
                    self.assertEqual(told(call, suits, *given), self.fresh(call, suits, second))
                    replace(given, first)
                    self.assertEqual(told(call, suits, *given), wanted)

    def test_links_that_are_changed_in_place(self):
        row, thing = ["a", "b"], [1, 0]
        self.assertIs(are_links(row, thing), True)
        thing[0] = None
        self.assertIs(are_links(row, thing), False)
        thing[1] = None
        self.assertIs(are_links(row, thing), True)
        row.append("a")
        self.assertIs(are_links(row, thing), False)

    def test_lists_in_a_table_that_are_changed_in_place(self):
        suits, one, other = Suits(["a", "b"], [("a", "b")]), ["b", "a"], []
        table = compare(suits, one, other)[1]
        self.assertIs(is_table(suits, one, other, table), True)
        for node in table:
            for part in node:
                part.append("a")
                self.assertIs(is_table(suits, one, other, table), False)
                part.pop()
                self.assertIs(is_table(suits, one, other, table), True)
        self.assertEqual(compare(suits, one, other), ("alike", table))

    def test_results_that_are_changed_are_not_told_again(self):
        for call, suits, arguments in all_cases():
            wanted = self.fresh(call, suits, arguments)
            for _ in range(2):
                if not does_raise(call, suits, *arguments):
                    spoil(call(suits, *arguments))
                self.assertEqual(told(call, suits, *arguments), wanted)

    def test_new_relations_at_the_place_of_old_ones(self):
        for suits in RELATIONS * 3:
            for call in (after, partners):
                self.assertEqual(told(call, Suits(suits.kinds(), suits.pairs()), ["b"], ["b", "a", "c"]),
                                 told(call, suits, ["b"], ["b", "a", "c"]))


def replace(arguments, others):
    """Give the lists among the arguments the items of the others, in place."""
    for at, other in enumerate(others):
        if isinstance(other, list) and isinstance(arguments[at], list):
            arguments[at][:] = copy.deepcopy(other)
        else:
            arguments[at] = other


if __name__ == "__main__":
    unittest.main()
