"""[32], [33], [5]: partners, and the two readings of the pairs between a line and a row."""

import random
import unittest

from suitedpairs.lines import after
from suitedpairs.pairing import by_newcomers, by_persons, parted, partners
from suitedpairs.suits import Suits
from tests import model
from tests.values import all_lists_up_to

R = Suits(["a", "b", "c"], [("a", "b"), ("b", "c"), ("c", "c")])


def person_by_person(pairs, line, row):
    """The second reading of [5]: each person leaves with the first newcomer that suits it and is not taken yet."""
    taken = []
    for person in line:
        free = [at for at, kind in enumerate(row) if at not in taken and model.do_suit(pairs, person, kind)]
        taken.append(free[0] if free else None)
    return taken


def made_runs():
    """Relations with lines and rows: all short ones of small relations, and long ones of all relations."""
    chance = random.Random(12)
    for kinds, pairs in model.small_relations():
        for line in model.lines_up_to(kinds, pairs, 2):
            for row in all_lists_up_to(kinds, 3):
                yield pairs, Suits(kinds, pairs), line, row
        for length in (5, 12):
            yield (pairs, Suits(kinds, pairs), model.random_line(chance, kinds, pairs, length),
                   model.random_row(chance, kinds, length + 1))
    for kinds, pairs in model.large_relations():
        for many, length in ((0, 10), (6, 6), (40, 30), (20, 60), (150, 50)):
            yield (pairs, Suits(kinds, pairs), model.random_line(chance, kinds, pairs, many),
                   model.random_row(chance, kinds, length))


RUNS = list(made_runs())


class Pairs(unittest.TestCase):
    def test_partners(self):
        for pairs, suits, line, row in RUNS:
            self.assertEqual(partners(suits, line, row), model.partners(pairs, line, row))

    def test_each_one_is_the_partner_of_its_partner(self):
        for pairs, suits, line, row in RUNS:
            found = partners(suits, line, row)
            self.assertEqual(len(found), len(line) + len(row))
            persons = line + row
            for number, other in enumerate(found):
                if other is not None:
                    self.assertEqual(found[other], number)
                    self.assertTrue(model.do_suit(pairs, persons[number], persons[other]))
                    self.assertTrue(max(number, other) >= len(line))

    def test_those_without_partners_are_the_line_after_the_row(self):
        for pairs, suits, line, row in RUNS:
            found = partners(suits, line, row)
            left = [kind for kind, other in zip(line + row, found) if other is None]
            self.assertEqual(left, after(suits, line, row))

    def test_by_newcomers(self):
        for pairs, suits, line, row in RUNS:
            found = model.partners(pairs, line, row)[len(line):]
            wanted = [other if other is not None and other < len(line) else None for other in found]
            self.assertEqual(by_newcomers(suits, line, row), wanted)

    def test_by_persons(self):
        for pairs, suits, line, row in RUNS:
            self.assertEqual(by_persons(suits, line, row), person_by_person(pairs, line, row))

    def test_parted(self):
        for pairs, suits, line, row in RUNS:
            found = model.partners(pairs, line, row)
            stay = [kind for kind, other in zip(line, found) if other is None]
            rest = [kind for kind, other in zip(row, found[len(line):]) if other is None or other >= len(line)]
            self.assertEqual(parted(suits, line, row), (stay, rest))


class Guarantees(unittest.TestCase):
    def test_both_readings_tell_the_same_pairs(self):
        for pairs, suits, line, row in RUNS:
            ones = {(person, at) for at, person in enumerate(by_newcomers(suits, line, row)) if person is not None}
            others = {(person, at) for person, at in enumerate(by_persons(suits, line, row)) if at is not None}
            self.assertEqual(ones, others)

    def test_of_each_kind_the_first_persons_leave(self):
        for pairs, suits, line, row in RUNS:
            takers = by_persons(suits, line, row)
            for kind in suits.kinds():
                stays = [taker is None for person, taker in zip(line, takers) if person == kind]
                self.assertEqual(stays, sorted(stays))

    def test_the_line_after_is_what_stays_and_the_line_of_the_rest(self):
        for pairs, suits, line, row in RUNS:
            stay, rest = parted(suits, line, row)
            self.assertEqual(stay + after(suits, [], rest), after(suits, line, row))

    def test_rows_cut_in_parts(self):
        chance = random.Random(13)
        for kinds, pairs in model.small_relations() + model.large_relations():
            suits = Suits(kinds, pairs)
            line = model.random_line(chance, kinds, pairs, 15)
            row = model.random_row(chance, kinds, 20)
            whole = after(suits, line, row)
            found = by_persons(suits, line, row)
            for at in range(len(row) + 1):
                self.assertEqual(after(suits, after(suits, line, row[:at]), row[at:]), whole)
                early = by_persons(suits, line, row[:at])
                self.assertEqual(early, [None if taker is None or taker >= at else taker for taker in found])
                self.assertEqual(by_newcomers(suits, line, row[:at]), by_newcomers(suits, line, row)[:at])


class Edges(unittest.TestCase):
    def test_nobody(self):
        self.assertEqual(partners(R, [], []), [])
        self.assertEqual([by_newcomers(R, [], []), by_persons(R, [], []), parted(R, [], [])], [[], [], ([], [])])

    def test_no_newcomers(self):
        line = ["a", "c", "a"]
        self.assertEqual(partners(R, line, []), [None, None, None])
        self.assertEqual(by_newcomers(R, line, []), [])
        self.assertEqual(by_persons(R, line, []), [None, None, None])
        self.assertEqual(parted(R, line, []), (line, []))

    def test_no_line(self):
        row = ["a", "c", "b", "b", "b"]
        self.assertEqual(partners(R, [], row), [2, 3, 0, 1, None])
        self.assertEqual(by_newcomers(R, [], row), [None] * 5)
        self.assertEqual(by_persons(R, [], row), [])
        self.assertEqual(parted(R, [], row), ([], row))

    def test_newcomers_among_themselves(self):
        self.assertEqual(partners(R, ["a"], ["c", "c", "b"]), [3, 2, 1, 0])
        self.assertEqual(by_newcomers(R, ["a"], ["c", "c", "b"]), [None, None, 0])
        self.assertEqual(by_persons(R, ["a"], ["c", "c", "b"]), [2])
        self.assertEqual(parted(R, ["a"], ["c", "c", "b"]), ([], ["c", "c"]))

    def test_the_longest(self):
        line, row = ["a"] * 200, ["b"] * 200
        self.assertEqual(partners(R, line, row), list(range(200, 400)) + list(range(200)))
        self.assertEqual(by_newcomers(R, line, row), list(range(200)))
        self.assertEqual(by_persons(R, line, row), list(range(200)))
        self.assertEqual(parted(R, line, row), ([], []))
        self.assertEqual(parted(R, line, line), (line, line))
        self.assertEqual(partners(R, line, line), [None] * 400)


if __name__ == "__main__":
    unittest.main()
