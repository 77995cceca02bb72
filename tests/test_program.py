"""The guarantees [5] to [12] where several modules meet."""

import random
import unittest

from suitedpairs.alike import compare, separates
from suitedpairs.books import Book
from suitedpairs.crowds import crowd, excess, is_crowd
from suitedpairs.desk import Desk
from suitedpairs.distances import course, distance
from suitedpairs.errors import TooMany
from suitedpairs.films import backward, cut, finish, is_complete, rewind
from suitedpairs.lines import after, moments
from suitedpairs.pairing import by_newcomers, by_persons, parted, partners
from suitedpairs.papers import are_right
from suitedpairs.reaching import fewest
from suitedpairs.rounds import again, cycle
from suitedpairs.shares import full, joins, length, mean, meets, share, waiting
from suitedpairs.stuck import leave
from suitedpairs.suits import Suits
from suitedpairs.sums import total
from suitedpairs.trails import given_up, trail
from tests import model, weighed
from tests.ledger import answer
from tests.values import Keeping

LETTERS = "abcdefghijklmnopqrstuvwxyz"


def named(number):
    """A name for a number."""
    return "n" + LETTERS[number // 26] + LETTERS[number % 26]


def told(suits, row):
    """A Book to which the newcomers of a row have come."""
    book = Book(suits)
    for number, kind in enumerate(row):
        book.come(named(number), kind)
    return book


def some_relations(each=2):
    """Relations of one to eight kinds."""
    return model.small_relations()[::2] + model.large_relations(each)


class Renamed(unittest.TestCase):
    """Nothing depends on the names of the kinds, except in which order they are tried."""

    def renamings(self, chance, kinds):
        """A table of other names in the same order, and one of other names in any order."""
        names = sorted(chance.sample(["aa", "b", "bc", "d", "eeee", "f", "hh", "k", "xyz", "zzzzzzzz"], len(kinds)))
        return dict(zip(sorted(kinds), names)), dict(zip(kinds, chance.sample(names, len(names))))

    def renamed(self, table, value):
        """A value in which kinds have other names."""
        if isinstance(value, str):
            return table.get(value, value)
        if isinstance(value, (list, tuple)):
            return value.__class__(self.renamed(table, item) for item in value)
        return value

    def test_lines_and_films(self):
        chance = random.Random(151)
        for kinds, pairs in some_relations():
            suits = Suits(kinds, pairs)
            line, row = model.random_line(chance, kinds, pairs, 6), model.random_row(chance, kinds, 8)
            for table in self.renamings(chance, kinds):
                other = Suits(list(table.values()), self.renamed(table, pairs))
                new_line, new_row = self.renamed(table, line), self.renamed(table, row)
                for call in (after, partners, by_newcomers, by_persons, parted, lambda *told: list(moments(*told))):
                    self.assertEqual(call(other, new_line, new_row), self.renamed(table, call(suits, line, row)))
                for call in (is_complete, backward, rewind, lambda *told: cut(*told, 3)):
                    self.assertEqual(answer(call, other, new_row), self.renamed_answer(table, answer(call, suits, row)))
                self.assertEqual(trail(other, new_line, new_row, 2, table[kinds[0]]),
                                 trail(suits, line, row, 2, kinds[0]))
                self.assertEqual([given_up(other, new_line, new_row, place) for place in range(len(line))],
                                 [given_up(suits, line, row, place) for place in range(len(line))])

    def renamed_answer(self, table, told):
        """What a call returns, with other names, or the error that it raises."""
        return (told[0], self.renamed(table, told[1])) if told[0] == "value" else told

    def test_rounds_rows_and_ways(self):
        chance = random.Random(152)
        for kinds, pairs in some_relations():
            suits = Suits(kinds, pairs)
            line, goal = (model.random_line(chance, kinds, pairs, 5) for _ in range(2))
            row, second = (model.random_row(chance, kinds, many) for many in (6, 3))
            for table in self.renamings(chance, kinds):
                other = Suits(list(table.values()), self.renamed(table, pairs))
                new = [self.renamed(table, one) for one in (line, goal, row, second)]
                self.assertEqual(answer(cycle, other, new[0], new[2]), answer(cycle, suits, line, row))
                self.assertEqual(answer(again, other, new[0], new[2], 10 ** 18),
                                 self.renamed_answer(table, answer(again, suits, line, row, 10 ** 18)))
                self.assertEqual(crowd(other, new[2])[0], crowd(suits, row)[0])
                self.assertEqual((course(other, *new[:3]), distance(*new[:2])),
                                 (course(suits, line, goal, row), distance(line, goal)))
                self.assertEqual(compare(other, new[3], new[3][::-1])[0], compare(suits, second, second[::-1])[0])
                self.assert_ways(table, suits, other, line, goal)

    def assert_ways(self, table, suits, other, line, goal):
        """The same words, as many newcomers, and the same stuck persons."""
        kept = list(range(0, len(line), 2))
        calls = [(fewest, goal), (leave, kept)]
        for call, thing in calls:
            one = call(suits, line, thing)
            two = call(other, self.renamed(table, line), self.renamed(table, thing))
            self.assertEqual(two[0], one[0])
            self.assertEqual(len(two[1]), len(one[1]))
            if one[0] != "row":
                self.assertEqual(two[1], one[1])

    def test_shares(self):
        chance = random.Random(153)
        for kinds, pairs, weights in list(weighed.weighed_relations(5, 6, 154))[::2]:
            suits = Suits(kinds, pairs)
            line, members = model.random_line(chance, kinds, pairs, 4), sorted(chance.sample(kinds, 1))
            for table in self.renamings(chance, kinds):
                other = Suits(list(table.values()), self.renamed(table, pairs))
                more = sorted(self.renamed(table, weights))
                new = self.renamed(table, line), sorted(self.renamed(table, members))
                self.assertEqual(full(other, more) is None, full(suits, weights) is None)
                if full(suits, weights) is None:
                    self.assertEqual([share(other, more, new[0]), waiting(other, more, new[1]), mean(other, more),
                                      length(other, more, 3), total(other, more, new[1]),
                                      joins(other, more, table[kinds[0]]),
                                      meets(other, more, table[kinds[0]], table[kinds[-1]])],
                                     [share(suits, weights, line), waiting(suits, weights, members),
                                      mean(suits, weights), length(suits, weights, 3), total(suits, weights, members),
                                      joins(suits, weights, kinds[0]), meets(suits, weights, kinds[0], kinds[-1])])

    def test_in_the_same_order_all_is_the_same(self):
        chance = random.Random(155)
        for kinds, pairs in some_relations():
            suits = Suits(kinds, pairs)
            table = self.renamings(chance, kinds)[0]
            other = Suits(list(table.values()), self.renamed(table, pairs))
            line, row = model.random_line(chance, kinds, pairs, 5), model.random_row(chance, kinds, 4)
            new_line, new_row = self.renamed(table, line), self.renamed(table, row)
            self.assertEqual(other.calm_sets(), self.renamed(table, suits.calm_sets()))
            self.assertEqual(crowd(other, new_row), self.renamed(table, crowd(suits, row)))
            self.assertEqual(compare(other, new_row, new_row[:2]), self.renamed(table, compare(suits, row, row[:2])))
            self.assertEqual(compare(other, new_row, new_row), self.renamed(table, compare(suits, row, row)))
            if not set(line) & set(suits.lonely()):
                self.assertEqual(finish(other, new_line), self.renamed(table, finish(suits, line)))

    def test_books(self):
        chance = random.Random(156)
        for kinds, pairs in some_relations(1):
            row = model.random_row(chance, kinds, 12)
            one = told(Suits(kinds, pairs), row)
            for table in self.renamings(chance, kinds):
                other = told(Suits(list(table.values()), self.renamed(table, pairs)), self.renamed(table, row))
                self.assertEqual((other.pairs(), other.line()), (one.pairs(), self.renamed(table, one.line())))


class LateAsInTime(unittest.TestCase):
    def test_newcomers_told_in_any_order(self):
        chance = random.Random(161)
        for kinds, pairs in some_relations():
            suits = Suits(kinds, pairs)
            row = model.random_row(chance, kinds, 14)
            wanted = told(suits, row)
            book, known = Book(suits), []
            for number in chance.sample(range(len(row)), len(row)):
                at = len([other for other in known if other < number])
                book.late(at, ("come", named(number), row[number]))
                known.append(number)
            self.assertEqual(book, wanted)
            self.assertEqual((book.line(), book.pairs(), book.waiting), (wanted.line(), wanted.pairs(), wanted.waiting))
            self.assertEqual([book.partner(named(number)) for number in range(14)],
                             [wanted.partner(named(number)) for number in range(14)])

    def test_told_to_a_desk(self):
        chance = random.Random(162)
        for kinds, pairs in some_relations()[::3]:
            suits = Suits(kinds, pairs)
            row = model.random_row(chance, kinds, 8)
            desk, late = Desk(suits), Desk(suits)
            for number, kind in enumerate(row):
                desk.execute(f"come {named(number)} {kind}")
            for number in range(len(row) - 1, -1, -1):
                late.execute(f"late 0 come {named(number)} {row[number]}")
            for line in ("line", "pairs", "log"):
                self.assertEqual(late.execute(line), desk.execute(line))

    def test_one_person_differs_as_the_trail_says(self):
        chance = random.Random(163)
        for kinds, pairs in some_relations():
            suits = Suits(kinds, pairs)
            row = model.random_row(chance, kinds, 12)
            for at in (0, 5, 12):
                kind = chance.choice(kinds)
                side, number = trail(suits, [], row, at, kind)[-1]
                wanted = ("more" if side == 1 else "fewer", "newcomer" if number == -1 else named(number))
                book = told(suits, row)
                self.assertEqual(book.late(at, ("come", "newcomer", kind)), wanted)
                # And if the newcomer is taken out again, it is the reverse.
                self.assertEqual(book.cut(at), ("fewer" if side == 1 else "more", wanted[1]))
                self.assertEqual(book, told(suits, row))

    def test_one_who_gives_up_as_the_trail_says(self):
        chance = random.Random(164)
        for kinds, pairs in some_relations():
            suits = Suits(kinds, pairs)
            line, row = model.random_line(chance, kinds, pairs, 8), model.random_row(chance, kinds, 10)
            for place in range(len(line)):
                side, number = given_up(suits, line, row, place)[-1]
                book = told(suits, line + row)
                self.assertEqual(book.late(len(line), ("go", named(place))),
                                 ("more" if side == 1 else "fewer", named(number)))


class FilmsOfBooks(unittest.TestCase):
    def test_backward(self):
        chance = random.Random(165)
        for kinds, pairs in some_relations():
            suits = Suits(kinds, pairs)
            row = model.random_row(chance, kinds, 8)
            left = after(suits, [], row)
            if set(left) & set(suits.lonely()):
                continue
            # Made complete by the newcomers with whom all who are left leave.
            row = row + finish(suits, left)
            self.assertTrue(is_complete(suits, row))
            links = partners(suits, [], row)
            film = backward(suits, row)
            mirrored = [len(row) - 1 - links[len(row) - 1 - at] for at in range(len(row))]
            self.assertTrue(are_right(suits, film, mirrored))
            self.assertEqual(told(suits, film).waiting, 0)
            for at in range(len(row) + 1):
                coming, leaving = cut(suits, row, at)
                self.assertEqual(coming, [kind for _, kind in told(suits, row[:at]).line()])
                self.assertEqual(leaving, [film[number] for number in self.open_ones(links, at)])

    def open_ones(self, links, at):
        """In the film, the places of those who wait at a moment, as they come there: of the last one to leave first."""
        last = len(links) - 1
        return [last - place for place in range(last, at - 1, -1) if links[place] < at]

    def test_rewound(self):
        chance = random.Random(166)
        for kinds, pairs in some_relations():
            suits = Suits(kinds, pairs)
            row = model.random_row(chance, kinds, 10)
            book = told(suits, row)
            couples = len(book.pairs())
            for number, (word, kind) in enumerate(rewind(suits, row)):
                if word == "come":
                    book.come("r" + named(number), kind)
                else:
                    book.go(next(name for name, other in book.line() if other == kind))
            self.assertEqual(book.waiting, 0)
            backs = [pair for pair in book.pairs()[couples:]]
            # Two who leave together in the film that is read backward are those of partners.
            links = partners(suits, [], row)
            wanted = {tuple(sorted((len(row) - 1 - at, len(row) - 1 - other)))
                      for at, other in enumerate(links) if other is not None}
            self.assertEqual({tuple(sorted(self.number_of(name, len(row)) for name in pair)) for pair in backs}, wanted)

    def number_of(self, name, many):
        """The number of the event at which a person of a rewound film came."""
        return next(number for number in range(many) if "r" + named(number) == name)


class OnToAThirdLine(unittest.TestCase):
    def test_from_line_to_line(self):
        chance = random.Random(171)
        seen = 0
        for kinds, pairs in some_relations(3) * 2:
            suits = Suits(kinds, pairs)
            lines = [model.random_line(chance, kinds, pairs, 5) for _ in range(3)]
            ways = [fewest(suits, lines[one], lines[other]) for one, other in ((0, 1), (1, 2), (0, 2))]
            if ways[0][0] == ways[1][0] == "row":
                both = ways[0][1] + ways[1][1]
                self.assertEqual(after(suits, lines[0], both), lines[2])
                self.assertEqual(ways[2][0], "row")
                self.assertLessEqual(len(ways[2][1]), len(both))
                self.assertEqual(after(suits, lines[0], ways[2][1]), lines[2])
                seen += 1
        self.assertGreater(seen, 50)

    def test_each_newcomer_of_a_fewest_row_leads_nearer(self):
        chance = random.Random(172)
        for kinds, pairs in some_relations():
            suits = Suits(kinds, pairs)
            line = model.random_line(chance, kinds, pairs, 6)
            goal = after(suits, line, model.random_row(chance, kinds, 5))
            word, row = fewest(suits, line, goal)
            self.assertEqual(word, "row")
            for many, now in enumerate(moments(suits, line, row), start=1):
                self.assertEqual(len(fewest(suits, now, goal)[1]), len(row) - many)

    def test_the_distance_is_at_most_the_newcomers(self):
        # One newcomer takes one person out or puts one in.
        chance = random.Random(173)
        for kinds, pairs in some_relations():
            suits = Suits(kinds, pairs)
            line, goal = (model.random_line(chance, kinds, pairs, 6) for _ in range(2))
            word, row = fewest(suits, line, goal)
            if word == "row":
                self.assertGreaterEqual(len(row), distance(line, goal))

    def test_two_rows_from_one_line_to_another(self):
        # Both lead from this line to the same one; if they are apart, the line that shows it leads elsewhere.
        chance = random.Random(174)
        seen = 0
        for kinds, pairs in some_relations()[::2]:
            suits = Suits(kinds, pairs)
            line, one = model.random_line(chance, kinds, pairs, 3), model.random_row(chance, kinds, 3)
            other = fewest(suits, line, after(suits, line, one))[1]
            self.assertFalse(separates(suits, one, other, line))
            word, found = compare(suits, one, other)
            if word == "apart":
                self.assertTrue(separates(suits, one, other, found))
                self.assertNotEqual(after(suits, found, one), after(suits, found, other))
                self.assertLessEqual(len(found), len(one) + len(other) + 1)
                seen += 1
        self.assertGreater(seen, 5)


class AsOftenAsTheWeights(Keeping, unittest.TestCase):
    """Rows in which each kind comes as often as its weight says."""

    def made(self, seed, each=6):
        chance = random.Random(seed)
        for kinds, pairs in weighed.relations(6, each, seed):
            for most in (1, 3, 6):
                weights = weighed.made_weights(chance, kinds, most)
                row = [kind for kind, number in weights for _ in range(number)]
                yield kinds, pairs, Suits(kinds, pairs), weights, chance.sample(row, len(row))

    def test_excess_and_crowd(self):
        said = []
        for kinds, pairs, suits, weights, row in self.made(181):
            differences = []
            for members in suits.calm_sets():
                more = weighed.weight(weights, members) - weighed.weight(weights, suits.mates(members))
                self.assertEqual(excess(suits, row, members), more)
                differences.append(more)
            self.assertEqual(crowd(suits, row)[0], max(differences))
            members = full(suits, weights)
            self.assertEqual(members is None, max(differences[1:], default=-1) < 0)
            if members is None:
                self.assertEqual(crowd(suits, row), (0, []))
            else:
                self.assert_truth(is_crowd(suits, row, members), excess(suits, row, members) > 0)
            said.append((members is None, max(differences) > 0))
        self.assertGreater(min(said.count(one) for one in [(True, False), (False, True), (False, False)]), 5)

    def test_cycle(self):
        chance = random.Random(182)
        said = []
        for kinds, pairs, suits, weights, row in self.made(183):
            lines = [[], model.random_line(chance, kinds, pairs, 4), model.random_line(chance, kinds, pairs, 15)]
            words = [answer(cycle, suits, line, row)[0] for line in lines]
            if crowd(suits, row)[0] > 0:
                self.assertEqual(words, ["TooMany"] * 3)
            elif full(suits, weights) is None:
                self.assertEqual(words, ["value"] * 3)
            # From every line, or from none.
            self.assertEqual(len(set(words)), 1)
            said.append(words[0])
        self.assertGreater(min(said.count("value"), said.count("TooMany")), 30)

    def test_a_full_set_without_shares_and_lines_that_grow(self):
        suits = Suits(["a", "b", "c"], [("a", "b"), ("b", "c"), ("c", "c")])
        for numbers, members, grows in (((1, 2, 2), None, False), ((2, 2, 2), ["a"], False), ((3, 2, 2), ["a"], True),
                                        ((1, 3, 2), ["b"], False), ((1, 4, 2), ["b"], True)):
            weights = list(zip("abc", numbers))
            row = [kind for kind, number in weights for _ in range(number)]
            self.assertEqual(full(suits, weights), members)
            self.assertEqual(crowd(suits, row)[0] > 0, grows)
            self.assertEqual(answer(cycle, suits, [], row)[0], "TooMany" if grows else "value")
            if grows:
                self.assertGreaterEqual(len(again(suits, [], row, 400)), 400)
                self.assertEqual(self.raised(TooMany, again, suits, [], row, 401).limit, 400)

    def test_in_a_cycle_persons_of_each_kind_join_as_often_as_they_leave(self):
        for kinds, pairs, suits, weights, row in list(self.made(184, 3))[::2]:
            if full(suits, weights) is None:
                lead, many = cycle(suits, [], row)
                line = again(suits, [], row, lead)
                links = partners(suits, line, row * many)
                persons = line + row * many
                joined = [persons[at] for at in range(len(line), len(persons)) if links[at] is None or links[at] > at]
                left = [persons[at] for at in range(len(persons)) if links[at] is not None and links[at] > at]
                self.assertEqual(sorted(joined), sorted(left))


if __name__ == "__main__":
    unittest.main()
