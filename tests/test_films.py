"""[41], [42], [7]: complete rows, backward, cut and finish; events, play and rewind."""

import random
import unittest

from suitedpairs.errors import Broken, Lonely, NotComplete
from suitedpairs.films import backward, cut, finish, is_complete, play, rewind
from suitedpairs.lines import after
from suitedpairs.pairing import partners
from suitedpairs.suits import Suits
from tests import model
from tests.values import Keeping, all_lists, all_lists_up_to

R = Suits(["a", "b", "c"], [("a", "b"), ("b", "c"), ("c", "c")])


def some_rows():
    """Relations with rows: all short ones of small relations, and some long ones of all relations."""
    chance = random.Random(16)
    for kinds, pairs in model.small_relations():
        for row in all_lists_up_to(kinds, 4 if len(kinds) < 3 else 3):
            yield pairs, Suits(kinds, pairs), row
    for kinds, pairs in model.small_relations() + model.large_relations():
        for length in (4, 6, 6, 8, 30):
            yield pairs, Suits(kinds, pairs), model.random_row(chance, kinds, length)


def complete_rows():
    """Relations with complete rows, short and long ones."""
    chance = random.Random(17)
    for pairs, suits, row in some_rows():
        left = model.after(pairs, [], row)
        if not left:
            yield pairs, suits, row
        elif len(row) > 3 and all(model.mates(suits.kinds(), pairs, [kind]) for kind in left):
            # The first person leaves with any of its mates, so these newcomers make the row complete.
            yield pairs, suits, row + [chance.choice(model.mates(suits.kinds(), pairs, [kind])) for kind in left]


class Complete(Keeping, unittest.TestCase):
    def test_is_complete(self):
        for pairs, suits, row in some_rows():
            self.assert_truth(is_complete(suits, row), not model.after(pairs, [], row))
        for pairs, suits, row in complete_rows():
            self.assert_truth(is_complete(suits, row), True)

    def test_edges(self):
        for row, so in (([], True), (["a"], False), (["a", "b"], True), (["c", "c"], True), (["c", "c", "c"], False),
                        (["a"] * 100 + ["b"] * 100, True), (["a"] * 101 + ["b"] * 99, False), (["a"] * 200, False)):
            self.assert_truth(is_complete(R, row), so)

    def test_not_complete(self):
        found = 0
        for pairs, suits, row in some_rows():
            left = len(model.after(pairs, [], row))
            if left:
                found += 1
                self.assertEqual(repr(self.raised(NotComplete, backward, suits, row).left), repr(left))
                for at in range(len(row) + 1):
                    self.assertEqual(repr(self.raised(NotComplete, cut, suits, row, at).left), repr(left))
        self.assertGreater(found, 1000)

    def test_those_who_wait_are_counted(self):
        self.assertEqual(self.raised(NotComplete, backward, R, ["a"] * 200).left, 200)
        self.assertEqual(self.raised(NotComplete, cut, R, ["a"] * 200, 0).left, 200)
        self.assertEqual(self.raised(NotComplete, cut, R, ["a", "b", "a", "c", "a"], 2).left, 3)
        self.assertEqual(self.raised(NotComplete, backward, R, ["a", "b", "a"]).left, 1)


class Backward(unittest.TestCase):
    def test_partners_exchange_their_kinds(self):
        for pairs, suits, row in complete_rows():
            links = model.partners(pairs, [], row)
            self.assertEqual(backward(suits, row), [row[other] for other in reversed(links)])

    def test_it_is_complete_and_the_same_places_are_partners(self):
        for pairs, suits, row in complete_rows():
            last = len(row) - 1
            film = backward(suits, row)
            self.assertTrue(is_complete(suits, film))
            links = [last - other for other in reversed(partners(suits, [], row))]
            self.assertEqual(partners(suits, [], film), links)

    def test_backward_of_backward(self):
        for pairs, suits, row in complete_rows():
            self.assertEqual(backward(suits, backward(suits, row)), row)

    def test_edges(self):
        self.assertEqual(backward(R, []), [])
        self.assertEqual(backward(R, ["a", "b"]), ["a", "b"])
        self.assertEqual(backward(R, ["b", "a", "c", "c"]), ["c", "c", "b", "a"])
        self.assertEqual(backward(R, ["a"] * 100 + ["b"] * 100), ["a"] * 100 + ["b"] * 100)


class Cut(unittest.TestCase):
    def test_all_places(self):
        for pairs, suits, row in complete_rows():
            links = model.partners(pairs, [], row)
            for at in range(len(row) + 1):
                waiting = [index for index in range(at) if links[index] >= at]
                leaving = sorted(waiting, key=lambda index: -links[index])
                wanted = ([row[index] for index in waiting], [row[index] for index in leaving])
                found = cut(suits, row, at)
                self.assertIs(found.__class__, tuple)
                self.assertEqual(found, wanted)

    def test_the_same_persons_wait_in_the_film(self):
        for pairs, suits, row in complete_rows():
            film = backward(suits, row)
            for at in range(len(row) + 1):
                coming, leaving = cut(suits, row, at)
                self.assertEqual(coming, after(suits, [], row[:at]))
                self.assertEqual(leaving, after(suits, [], film[:len(row) - at]))
                self.assertEqual(sorted(coming), sorted(leaving))

    def test_both_ends(self):
        for pairs, suits, row in complete_rows():
            self.assertEqual(cut(suits, row, 0), ([], []))
            self.assertEqual(cut(suits, row, len(row)), ([], []))

    def test_edges(self):
        self.assertEqual(cut(R, [], 0), ([], []))
        self.assertEqual(cut(R, ["a", "b"], 1), (["a"], ["a"]))
        row = ["a", "c", "a", "b", "b", "b"]
        self.assertEqual([cut(R, row, at) for at in (3, 4, 5)],
                         [(["a", "c", "a"], ["a", "c", "a"]), (["c", "a"], ["a", "c"]), (["a"], ["a"])])
        self.assertEqual(cut(R, ["a"] * 100 + ["b"] * 100, 100), (["a"] * 100, ["a"] * 100))


class Finish(Keeping, unittest.TestCase):
    def test_the_least_of_the_shortest_rows(self):
        for kinds, pairs in model.small_relations():
            suits = Suits(kinds, pairs)
            for line in model.lines_up_to(kinds, pairs, 4):
                if all(model.mates(kinds, pairs, [kind]) for kind in line):
                    rows = [row for row in all_lists(kinds, len(line)) if not model.after(pairs, line, row)]
                    self.assertEqual(finish(suits, line), rows[0])

    def test_large_relations(self):
        chance = random.Random(18)
        for kinds, pairs in model.large_relations():
            suits = Suits(kinds, pairs)
            for length in (1, 2, 3):
                line = [kind for kind in model.random_line(chance, kinds, pairs, length)
                        if kind not in suits.lonely()]
                rows = [row for row in all_lists(sorted(kinds), len(line)) if not model.after(pairs, line, row)]
                self.assertEqual(finish(suits, line), rows[0])

    def test_as_many_newcomers_as_persons(self):
        chance = random.Random(19)
        for kinds, pairs in model.large_relations():
            suits = Suits(kinds, pairs)
            line = [kind for kind in model.random_line(chance, kinds, pairs, 200) if kind not in suits.lonely()]
            row = finish(suits, line)
            self.assertEqual(len(row), len(line))
            self.assertEqual(after(suits, line, row), [])

    def test_lonely(self):
        suits = Suits(["d", "c", "b", "a", "aa"], [("b", "c")])
        for line, kind in ((["a"], "a"), (["d"], "d"), (["d", "a"], "a"), (["a", "d"], "a"), (["b", "d"], "d"),
                           (["d", "aa", "d", "b"], "aa"), (["c", "c", "aa", "a"], "a"), (["b"] * 199 + ["d"], "d")):
            self.assertEqual(self.raised(Lonely, finish, suits, line).kind, kind)
        self.assertEqual(finish(suits, ["b", "b"]), ["c", "c"])
        self.assertEqual(finish(suits, ["c"]), ["b"])

    def test_lonely_in_all_small_relations(self):
        for kinds, pairs in model.small_relations():
            suits = Suits(kinds, pairs)
            for line in model.lines_up_to(kinds, pairs, 3):
                alone = sorted(kind for kind in line if not model.mates(kinds, pairs, [kind]))
                if alone:
                    self.assertEqual(self.raised(Lonely, finish, suits, line).kind, alone[0])

    def test_edges(self):
        self.assertEqual(finish(R, []), [])
        self.assertEqual(finish(Suits(["a"], []), []), [])
        self.assertEqual(finish(R, ["c"]), ["b"])
        self.assertEqual(finish(R, ["b"]), ["a"])
        self.assertEqual(finish(Suits(["a"], [("a", "a")]), ["a"]), ["a"])
        self.assertEqual(finish(R, ["b"] * 200), ["a"] * 200)
        suits = Suits(["a", "b", "c", "d"], [("b", "c"), ("a", "d")])
        self.assertEqual(finish(suits, ["c", "d", "c", "d"]), ["a", "a", "b", "b"])


class Play(Keeping, unittest.TestCase):
    def played(self, pairs, line, events):
        """The line after the events, or the index of the one that cannot be done."""
        now = list(line)
        for at, (word, kind) in enumerate(events):
            if word == "come":
                now = model.after(pairs, now, [kind])
            elif kind not in now:
                return at
            else:
                now.pop(now.index(kind))
        return now

    def assert_plays(self, suits, pairs, line, events):
        wanted = self.played(pairs, line, events)
        if isinstance(wanted, list):
            self.assertEqual(play(suits, line, events), wanted)
        else:
            self.assertEqual(repr(self.raised(Broken, play, suits, line, events).at), repr(wanted))

    def test_short_plays(self):
        for kinds, pairs in model.small_relations()[:30]:
            suits = Suits(kinds, pairs)
            events = [(word, kind) for word in ("come", "go") for kind in kinds]
            for line in model.lines_up_to(kinds, pairs, 2):
                for some in all_lists_up_to(events, 2):
                    self.assert_plays(suits, pairs, line, some)

    def test_long_plays(self):
        chance = random.Random(20)
        for kinds, pairs in model.small_relations() + model.large_relations():
            suits = Suits(kinds, pairs)
            for length in (5, 20, 100):
                line = model.random_line(chance, kinds, pairs, chance.randint(0, 200))
                events = [(chance.choice(["come", "come", "go"]), chance.choice(kinds)) for _ in range(length)]
                self.assert_plays(suits, pairs, line, events)
                wanted = self.played(pairs, line, events)
                if not isinstance(wanted, list):
                    self.assert_plays(suits, pairs, line, events[:wanted])

    def test_the_first_of_the_kind_goes(self):
        self.assertEqual(play(R, ["a", "c", "a"], [("go", "a")]), ["c", "a"])
        self.assertEqual(play(R, ["c", "a", "a"], [("go", "a"), ("go", "c")]), ["a"])
        suits = Suits(["a", "b"], [])
        self.assertEqual(play(suits, ["b", "a", "b", "a"], [("go", "a"), ("go", "b")]), ["b", "a"])

    def test_broken(self):
        for line, events, at in (
            ([], [("go", "a")], 0), (["a"], [("go", "a"), ("go", "a")], 1), (["a"], [("go", "b")], 0),
            (["a"], [("come", "b"), ("go", "b")], 1), (["a"], [("come", "b"), ("go", "a")], 1),
            ([], [("come", "a"), ("go", "c"), ("go", "b")], 1), (["a", "c"], [("go", "b"), ("go", "b")], 0),
            ([], [("come", "a")] * 399 + [("go", "c")], 399), ([], [("go", "c")] * 400, 0),
        ):
            self.assertEqual(repr(self.raised(Broken, play, R, line, events).at), repr(at))

    def test_edges(self):
        for line in ([], ["a"], ["a", "c", "a"]):
            self.assertEqual(play(R, line, []), line)
        self.assertEqual(play(R, [], [("come", "a")] * 400), ["a"] * 400)
        self.assertEqual(play(R, ["a"] * 200, [("go", "a")] * 200 + [("come", "b")] * 200), ["b"] * 200)
        self.assertEqual(play(R, [], [("come", "a"), ("go", "a")] * 200), [])
        self.assertEqual(play(R, [], [("come", "c"), ("go", "c"), ("come", "c"), ("come", "c")]), [])


class Rewind(unittest.TestCase):
    def test_one_event_for_each_newcomer(self):
        for pairs, suits, row in some_rows():
            links = model.partners(pairs, [], row)
            wanted = [("go", kind) if other is None else ("come", row[other]) for kind, other in zip(row, links)]
            events = rewind(suits, row)
            self.assertEqual(events, wanted[::-1])
            self.assertTrue(all(event.__class__ is tuple for event in events))

    def test_the_events_lead_to_the_empty_line(self):
        for pairs, suits, row in some_rows():
            self.assertEqual(play(suits, model.after(pairs, [], row), rewind(suits, row)), [])

    def test_at_each_moment_the_same_persons_wait(self):
        for pairs, suits, row in some_rows():
            now, events = model.after(pairs, [], row), rewind(suits, row)
            for at, event in enumerate(events):
                now = play(suits, now, [event])
                self.assertEqual(sorted(now), sorted(model.after(pairs, [], row[:len(row) - at - 1])))

    def test_the_newcomers_of_partners_are_partners_again(self):
        for pairs, suits, row in some_rows():
            links = model.partners(pairs, [], row)
            # Each waiting person is a tuple (kind, place of its newcomer of the film, or None if it waited before).
            waiting = [(kind, None) for kind, other in zip(row, links) if other is None]
            for place, (word, kind) in zip(reversed(range(len(row))), rewind(suits, row)):
                if word == "come":
                    fit = [person for person in waiting if model.do_suit(pairs, person[0], kind)]
                    if fit:
                        self.assertEqual(fit[0][1], links[place])
                        waiting.remove(fit[0])
                    else:
                        self.assertLess(links[place], place)
                        waiting.append((kind, place))
                else:
                    first = [person for person in waiting if person[0] == kind][0]
                    self.assertIsNone(first[1])
                    waiting.remove(first)
            self.assertEqual(waiting, [])

    def test_complete_rows_come_backward(self):
        for pairs, suits, row in complete_rows():
            self.assertEqual(rewind(suits, row), [("come", kind) for kind in backward(suits, row)])

    def test_edges(self):
        self.assertEqual(rewind(R, []), [])
        self.assertEqual(rewind(R, ["a"]), [("go", "a")])
        self.assertEqual(rewind(R, ["a", "c"]), [("go", "c"), ("go", "a")])
        self.assertEqual(rewind(R, ["a"] * 200), [("go", "a")] * 200)
        self.assertEqual(rewind(R, ["a"] * 100 + ["b"] * 100), [("come", "a")] * 100 + [("come", "b")] * 100)


if __name__ == "__main__":
    unittest.main()
