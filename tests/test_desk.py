"""[103]: the Desk, told and asked by lines of text."""

import random
import unittest

from suitedpairs.alike import compare
from suitedpairs.books import Book
from suitedpairs.desk import Desk
from suitedpairs.errors import (Broken, Full, Lonely, NoCommand, Nothing, NotWaiting, Taken, TooMany, Wrong)
from suitedpairs.films import finish
from suitedpairs.lines import is_line
from suitedpairs.reaching import fewest
from suitedpairs.rounds import again
from suitedpairs.suits import Suits
from tests import model
from tests.ledger import Ledger, answer
from tests.values import Keeping, nested, odd_values

KINDS, PAIRS = ["a", "b", "c"], [("a", "b"), ("b", "c"), ("c", "c")]
R = Suits(KINDS, PAIRS)
NAMES = ["ann", "bob", "cyd", "dan", "eve", "fay"]
# Lines that a Desk of R understands once ann of a and bob of c wait.
RIGHT = [
    "come dan a", "come dan b", "go ann", "late 0 come dan c", "late 2 go bob", "late 1 come dan a", "cut 0", "cut 1",
    "back", "line", "pairs", "log", "partner ann", "finish", "rounds 0 a b", "rounds 9 -", "rounds 9 a b", "reach -",
    "reach a", "reach a a c", "alike - / -", "alike a b / b a", "alike - / a", "alike a / -",
]


def filled(*lines, suits=R):
    """A Desk that was told these lines."""
    desk = Desk(suits)
    for line in lines:
        desk.execute(line)
    return desk


def state(desk):
    """All that a Desk tells of its Book, and the deeds that again has to do, which stay."""
    told = [desk.execute(line) for line in ("line", "pairs", "log")]
    done = 0
    while answer(desk.execute, "again")[0] == "value":
        done += 1
    for _ in range(done):
        told.append(desk.execute("back"))
    return told


def waiting_kinds(desk):
    """The kinds of the persons who wait."""
    line = desk.execute("line")
    return [] if line == "-" else [person.split(":")[1] for person in line.split(" ")]


def words_of(row):
    """A row as words."""
    return " ".join(row) if row else "-"


class Creating(Keeping, unittest.TestCase):
    def test_an_empty_book(self):
        for kinds, pairs in model.small_relations():
            desk = Desk(Suits(kinds, pairs))
            self.assertEqual([desk.execute(line) for line in ("line", "pairs", "log", "finish")], ["-"] * 4)

    def test_values_that_are_no_relations(self):
        for value in odd_values() + [Suits, Book, Book(R), Desk(R), [R], (R,), repr(R), KINDS, "a b a-b"]:
            self.assertEqual(self.raised(Wrong, Desk, value).place, 0)


class Deeds(Keeping, unittest.TestCase):
    def wanted(self, ledger, words):
        """What a Desk should answer to deeds, by the words on Books; an answer's text, or an error."""
        if words[0] == "late":
            deed = tuple(words[2:])
            word, told = ledger.late(int(words[1]), deed)
        elif words[0] == "cut":
            word, told = ledger.cut(int(words[1]))
        else:
            word, told = getattr(ledger, words[0])(*words[1:])
        if word != "value":
            return word, told
        if words[0] == "go":
            return word, "ok"
        return word, "-" if told is None else told if isinstance(told, str) else " ".join(told)

    def random_words(self, chance, kinds, many):
        word = chance.choice(["come"] * 5 + ["go", "late", "late", "late", "cut", "cut", "back", "again", "again",
                                             "partner"])
        if word == "come":
            return [word, chance.choice(NAMES), chance.choice(kinds)]
        if word in ("go", "partner"):
            return [word, chance.choice(NAMES)]
        at = str(chance.randint(0, many + 1))
        if word == "late":
            deed = ["go", chance.choice(NAMES)] if chance.random() < 0.4 else [
                "come", chance.choice(NAMES), chance.choice(kinds + ["x"])]
            return [word, at, *deed]
        return [word, at] if word == "cut" else [word]

    def assert_same(self, desk, ledger):
        self.assertEqual(desk.execute("line"), " ".join(map(":".join, ledger.line()[1])) or "-")
        self.assertEqual(desk.execute("pairs"), " ".join(map(":".join, ledger.couples()[1])) or "-")
        self.assertEqual(desk.execute("log"), "; ".join(map(" ".join, ledger.log()[1])) or "-")

    def test_in_any_order(self):
        chance = random.Random(131)
        said = {}
        for kinds, pairs in model.small_relations()[::2] + [(KINDS, PAIRS)] * 20:
            desk, ledger = Desk(Suits(kinds, pairs)), Ledger(sorted(kinds), pairs)
            for _ in range(40):
                words = self.random_words(chance, sorted(kinds), len(ledger.deeds))
                wanted = self.wanted(ledger, words)
                self.assertEqual(answer(desk.execute, " ".join(words)), wanted)
                self.assert_same(desk, ledger)
                said[words[0], wanted[0]] = said.get((words[0], wanted[0]), 0) + 1
        for one in [("come", "value"), ("come", "Taken"), ("go", "value"), ("go", "NotWaiting"), ("late", "value"),
                    ("late", "Broken"), ("late", "Wrong"), ("cut", "value"), ("cut", "Broken"), ("cut", "Wrong"),
                    ("back", "value"), ("back", "Nothing"), ("again", "value"), ("again", "Nothing"),
                    ("partner", "value"), ("partner", "NotWaiting")]:
            self.assertGreater(said.get(one, 0), 3, one)

    def test_as_they_are_written(self):
        desk = Desk(R)
        for line, wanted in (("come ann a", "-"), ("come bob c", "-"), ("come cyd b", "ann"), ("line", "bob:c"),
                             ("pairs", "ann:cyd"), ("log", "come ann a; come bob c; come cyd b"),
                             ("partner cyd", "ann"), ("partner bob", "-"), ("go bob", "ok"), ("partner bob", "-"),
                             ("line", "-"), ("back", "go bob"), ("back", "come cyd b"), ("again", "come cyd b"),
                             ("again", "go bob"),
                             ("cut 3", "more bob"), ("late 0 come dan c", "fewer bob"), ("cut 0", "more bob"),
                             ("late 3 go bob", "fewer bob"), ("log", "come ann a; come bob c; come cyd b; go bob"),
                             ("come eve a", "-"), ("come fay a", "-"), ("line", "eve:a fay:a"),
                             ("come gus b", "eve"), ("pairs", "ann:cyd eve:gus"), ("partner eve", "gus")):
            self.assertEqual(desk.execute(line), wanted)

    def test_words_of_commands_as_names_and_kinds(self):
        desk = Desk(Suits(["come", "go", "late"], [("come", "go")]))
        self.assertEqual([desk.execute(line) for line in ("come come come", "come go go", "come late late", "line",
                                                          "late 3 come line come", "late 3 go late", "log")],
                         ["-", "come", "-", "late:late", "more line", "fewer late",
                          "come come come; come go go; come late late; go late; come line come"])

    def test_errors_of_the_book(self):
        desk = filled("come ann a", "come bob c", "come cyd b")
        before = state(desk)
        self.assertEqual(self.raised(Taken, desk.execute, "come ann a").name, "ann")
        self.assertEqual(self.raised(NotWaiting, desk.execute, "go ann").name, "ann")
        self.assertEqual(self.raised(NotWaiting, desk.execute, "go dan").name, "dan")
        self.assertEqual(self.raised(NotWaiting, desk.execute, "partner dan").name, "dan")
        for line in ("late 4 come dan a", "late 4 go ann", "cut 3", "cut 4", f"cut {'9' * 40}",
                     f"late {'9' * 40} go ann"):
            self.assertEqual(self.raised(Wrong, desk.execute, line).place, 0)
        for line, at in (("late 0 come ann a", 1), ("late 1 go bob", 1), ("late 3 come dan x", 3),
                         ("late 2 come cyd a", 3), ("late 0 come dan abcdefgh", 0), ("late 3 go cyd", 3)):
            self.assertEqual(self.raised(Broken, desk.execute, line).at, at)
        self.assertEqual(vars(self.raised(Nothing, desk.execute, "again")), {})
        self.assertEqual(vars(self.raised(Nothing, Desk(R).execute, "back")), {})
        self.assertEqual(state(desk), before)

    def test_a_cut_that_breaks_the_log(self):
        desk = filled("come ann a", "come bob c", "go ann")
        self.assertEqual(self.raised(Broken, desk.execute, "cut 0").at, 1)
        self.assertEqual(desk.execute("cut 1"), "fewer bob")

    def test_full(self):
        desk = Desk(R)
        for many in range(200):
            desk.execute(f"come {'abcdefghijklmnopqrst'[many // 10]}{'abcdefghij'[many % 10]} a")
        before = desk.execute("log")
        for line in ("come new a", "go aa", "late 0 come new a", "late 200 go aa", "late 3 come new x"):
            self.assertEqual(self.raised(Full, desk.execute, line).limit, 200)
        self.assertEqual(self.raised(Wrong, desk.execute, "late 201 go aa").place, 0)
        self.assertEqual(self.raised(Taken, desk.execute, "come aa a").name, "aa")
        self.assertEqual(self.raised(NotWaiting, desk.execute, "go new").name, "new")
        self.assertEqual(desk.execute("log"), before)
        self.assertEqual(len(desk.execute("line").split(" ")), 200)
        self.assertEqual(desk.execute("finish"), " ".join(["b"] * 200))
        self.assertEqual(desk.execute("reach " + " ".join(["a"] * 150)), "50")
        self.assertEqual(desk.execute("reach " + " ".join(["a"] * 200)), "0")
        self.assertEqual(desk.execute("cut 0"), "fewer aa")


class Questions(Keeping, unittest.TestCase):
    def desks(self, seed, each=2):
        """Desks with some persons, with their relations and the kinds that wait."""
        chance = random.Random(seed)
        for kinds, pairs in model.small_relations()[::2] + model.large_relations(each):
            suits = Suits(kinds, pairs)
            lines = [f"come {name} {chance.choice(kinds)}" for name in NAMES[:chance.randint(0, 6)]]
            desk = filled(*lines, suits=suits)
            yield chance, suits, desk, waiting_kinds(desk)

    def assert_asked(self, desk, line, call, shown, *arguments, **more):
        """The text of what a function returns, or its error with its fields; and nothing changes."""
        before = desk.execute("log")
        word, told = answer(lambda: call(*arguments, **more))
        self.assertEqual(answer(desk.execute, line), (word, shown(told)) if word == "value" else (word, told))
        self.assertEqual(desk.execute("log"), before)
        return word

    def test_finish(self):
        said = [self.assert_asked(desk, "finish", finish, words_of, suits, now)
                for _, suits, desk, now in self.desks(141)]
        self.assertGreater(min(said.count("value"), said.count("Lonely")), 5)
        desk = filled("come ann b", "come bob a", suits=Suits(["a", "b", "c"], [("c", "c")]))
        self.assertEqual(self.raised(Lonely, desk.execute, "finish").kind, "a")

    def test_rounds(self):
        said = []
        for chance, suits, desk, now in self.desks(142):
            for many in (0, 1, 3, 8):
                row = model.random_row(chance, suits.kinds(), many)
                for times in (0, 1, 7, 10 ** 18):
                    said.append(self.assert_asked(desk, f"rounds {times} {words_of(row)}", again, words_of, suits, now,
                                                  row, times))
        self.assertGreater(min(said.count("value"), said.count("TooMany")), 20)

    def test_rounds_as_they_are_written(self):
        desk = filled("come ann c")
        self.assertEqual([desk.execute(f"rounds {times} a b") for times in (0, 1, 2, 10 ** 18)], ["c", "a", "a", "a"])
        self.assertEqual(desk.execute("rounds 0 -"), "c")
        self.assertEqual(desk.execute("rounds 1 c"), "-")
        self.assertEqual(self.raised(TooMany, desk.execute, "rounds 401 a a b").limit, 400)
        self.assertEqual(len(desk.execute("rounds 400 a a b").split(" ")), 401)

    def test_reach(self):
        said = []
        for chance, suits, desk, now in self.desks(143):
            for many in (0, 1, 3, 6):
                goal = model.random_line(chance, suits.kinds(), suits.pairs(), many)
                word, found = fewest(suits, now, goal)
                wanted = str(len(found)) if word == "row" else "never"
                self.assertEqual(desk.execute(f"reach {words_of(goal)}"), wanted)
                said.append(wanted == "never")
            self.assertEqual(desk.execute(f"reach {words_of(now)}"), "0")
        self.assertGreater(min(said.count(True), said.count(False)), 20)

    def test_goals_that_are_no_line(self):
        seen = 0
        for chance, suits, desk, _ in self.desks(144):
            for many in (2, 3, 5):
                row = model.random_row(chance, suits.kinds(), many)
                if not is_line(suits, row):
                    self.raised(NoCommand, desk.execute, f"reach {words_of(row)}")
                    seen += 1
        self.assertGreater(seen, 50)
        for goal in ("a b", "c c", "a c b", "c a c"):
            self.raised(NoCommand, Desk(R).execute, f"reach {goal}")

    def test_alike(self):
        said = []
        for chance, suits, desk, _ in self.desks(145):
            for _ in range(4):
                one = model.random_row(chance, suits.kinds(), chance.choice((0, 1, 2, 4)))
                other = chance.choice([list(one), one[::-1], model.random_row(chance, suits.kinds(), 2), []])
                line = f"alike {words_of(one)} / {words_of(other)}"
                shown = lambda told: "alike" if told[0] == "alike" else f"apart {words_of(told[1])}"
                self.assert_asked(desk, line, compare, shown, suits, one, other)
                said.append(desk.execute(line).split(" ")[0])
        self.assertGreater(min(said.count("alike"), said.count("apart")), 30)

    def test_alike_as_it_is_written(self):
        desk = filled("come ann a")
        for rows, wanted in (("b a / -", "apart c"), ("- / b a", "apart c"), ("- / -", "alike"), ("a / b", "apart -"),
                             ("a b / b a", "alike"), ("c a / a c", "apart -"), ("b / b", "alike")):
            self.assertEqual(desk.execute(f"alike {rows}"), wanted)
        one, other = ["c", "c"] * 8, ["b", "a"] * 8
        self.assert_asked(desk, f"alike {words_of(one)} / {words_of(other)}", compare,
                          lambda told: f"apart {words_of(told[1])}" if told[0] == "apart" else "alike", R, one, other)

    def test_errors_of_compare(self):
        # Many nodes are met for long rows: then what compare raises is raised.
        suits = Suits(model.LETTERS, [("a", "e"), ("b", "f"), ("c", "g"), ("d", "h")])
        row = ["a", "b", "c", "d"] * 4
        self.assertEqual(self.raised(TooMany, compare, suits, row, row).limit, 400)
        line = f"alike {words_of(row)} / {words_of(row)}"
        self.assertEqual(self.raised(TooMany, Desk(suits).execute, line).limit, 400)


class NoCommands(Keeping, unittest.TestCase):
    def desk(self):
        """A Desk with two who wait, and a deed for again to do."""
        return filled("come ann a", "come bob c", "come cyd a", "back")

    def assert_none(self, desk, line):
        self.assertEqual(vars(self.raised(NoCommand, desk.execute, line)), {})

    def test_right_lines(self):
        for line in RIGHT:
            self.assertEqual(answer(self.desk().execute, line)[0], "value")

    def test_any_value(self):
        desk = self.desk()
        before = state(desk)
        for value in odd_values() + [nested(8), b"line", ["line"], ("line",), R, Desk, desk, ["come", "dan", "a"]]:
            self.assert_none(desk, value)
        self.assertEqual(state(desk), before)

    def test_a_blank_or_a_word_more_or_fewer(self):
        desk = self.desk()
        before = state(desk)
        for line in RIGHT:
            words = line.split(" ")
            wrong = [" " + line, line + " ", line + "\n", "\n" + line, line.replace(" ", "  ", 1),
                     line.replace(" ", ""), line.replace(" ", "\n", 1), line.replace(" ", "\t", 1), line.upper(),
                     line.capitalize(), line + ".", "x " + line, "/ " + line, line + " /", line + " / a",
                     line + " A", line + " 1", line + ";", line + " -", words[0] + "x" + line[len(words[0]):],
                     "- " + line]
            if words[0] not in ("rounds", "reach", "alike"):
                wrong += [" ".join(words[:-1]), line + " a", line + " ann", f"{line}; {line}", f"{line}\n{line}"]
            for other in wrong:
                if other != line:
                    self.assert_none(desk, other)
        self.assertEqual(state(desk), before)

    def test_lines_that_are_none(self):
        desk = self.desk()
        before = state(desk)
        for line in ("", " ", "-", "come", "come dan", "come dan x", "come dan A", "come Dan a", "come dan ab",
                     "come abcdefghi a", "come dan a a", "come - a", "come dan -", "go", "go Ann", "go ann bob", "go -",
                     "go abcdefghi", "late", "late 0", "late come dan a", "late 0 come", "late 0 come dan", "late 0 go",
                     "late 0 come dan A", "late 0 come Dan a", "late 0 come dan abcdefghi", "late 0 come dan a a",
                     "late 0 gone ann", "late 0 go ann a", "late 0 cut 0", "late 0 -", "late 0 0 go ann", "cut",
                     "cut a", "cut 0 1", "cut -", "back 1", "again 1", "back back", "line a", "lines", "pairs a",
                     "pair", "log a", "partner", "partner Ann", "partner ann bob", "partner -", "finish a", "finish -",
                     "rounds", "rounds 1", "rounds a", "rounds a b", "rounds 1 x", "rounds 1 a x", "rounds 1 - -",
                     "rounds 1 a -",
                     "rounds 1 A", "rounds - a", "rounds a 1", "rounds 1 1 a", "reach", "reach x", "reach a x",
                     "reach A", "reach - -", "reach - a", "reach 1", "alike", "alike a", "alike /", "alike a /",
                     "alike / a",
                     "alike a b", "alike a / x", "alike x / a", "alike a / b / c", "alike a // b", "alike a/b",
                     "alike - / - -", "alike a - / b", "alike / /", "alike / a / b", "alike A / a", "alike a / A",
                     "help", "quit", "copied", "suits", "waiting", "length", "execute line", "come ann a; go ann"):
            self.assert_none(desk, line)
        self.assertEqual(state(desk), before)

    def test_numbers(self):
        desk = filled("come ann a", "come bob a")
        before = state(desk)
        for word in ("00", "01", "007", "+1", "-1", "-0", "+0", "1.0", "0x1", "1_0", "1e1", "\u0661", "\u00b2",
                     "\uff11", "", "a", "one", "1-", " 1", "1 ", "9" * 41, "1" + "0" * 40, "0" * 40, "0" * 41):
            for line in (f"cut {word}", f"late {word} come dan a", f"rounds {word} a b"):
                self.assert_none(desk, line)
        for word in ("9" * 40, "1" + "0" * 39, "3", "10"):
            self.assertEqual(self.raised(Wrong, desk.execute, f"cut {word}").place, 0)
            self.assertEqual(self.raised(Wrong, desk.execute, f"late {word} come dan a").place, 0)
        self.assertEqual(self.raised(Wrong, desk.execute, "cut 2").place, 0)
        self.assertEqual(state(desk), before)
        self.assertEqual([desk.execute("late 2 come dan a"), desk.execute("cut 0"), desk.execute("late 0 come eve a")],
                         ["more dan", "fewer ann", "more eve"])

    def test_times(self):
        desk = filled("come ann c")
        self.assertEqual(desk.execute(f"rounds {10 ** 18} a b"), "a")
        self.assertEqual(desk.execute(f"rounds {10 ** 18 - 1} a b"), "a")
        self.assert_none(desk, f"rounds {10 ** 18 + 1} a b")
        self.assert_none(desk, f"rounds {10 ** 39} a b")
        # No command comes before the errors of the functions.
        self.assert_none(desk, f"rounds {10 ** 18 + 1} a a b")
        self.assertEqual(self.raised(TooMany, desk.execute, f"rounds {10 ** 18} a a b").limit, 400)

    def test_how_many_kinds(self):
        desk = filled("come ann a")
        rows = {many: " ".join(["a"] * many) for many in (16, 17, 40, 41, 150, 200, 201, 400)}
        self.assertEqual(desk.execute(f"alike {rows[16]} / {rows[16]}"), "alike")
        for one, other in ((16, 17), (17, 16), (17, 17), (40, 40), (200, 16), (16, 201)):
            self.assert_none(desk, f"alike {rows[one]} / {rows[other]}")
        self.assert_none(desk, f"alike {rows[17]} / -")
        self.assert_none(desk, f"alike - / {rows[17]}")
        self.assertEqual(desk.execute(f"rounds 2 {rows[40]}"), " ".join(["a"] * 81))
        for many in (41, 200, 201):
            self.assert_none(desk, f"rounds 2 {rows[many]}")
            self.assert_none(desk, f"rounds 0 {rows[many]}")
        for many in (16, 17, 40, 41, 150, 200):
            self.assertEqual(desk.execute(f"reach {rows[many]}"), str(many - 1))
        for many in (201, 400):
            self.assert_none(desk, f"reach {rows[many]}")

    def test_before_all_other_errors(self):
        full = Desk(R)
        for many in range(200):
            full.execute(f"come {'abcdefghijklmnopqrst'[many // 10]}{'abcdefghij'[many % 10]} a")
        for line in ("come aa x", "come new x", "late 0 come new A", "late 00 go aa", "late 999 go Aa", "cut 0999"):
            self.assert_none(full, line)
        lonely = filled("come ann x", suits=Suits(["a", "x"], [("a", "a")]))
        self.assert_none(lonely, "finish now")
        self.assertEqual(self.raised(Lonely, lonely.execute, "finish").kind, "x")

    def test_what_again_has_to_do_is_still_there(self):
        desk = filled("come ann a", "come bob c", "back")
        for line in ("come", "come dan x", "late 00 go ann", "cut 01", "Back", "", None, "again again", "late 0 go"):
            self.assert_none(desk, line)
        for line in ("go bob", "late 9 go ann", "cut 1", "come ann a", "late 0 come ann a"):
            self.assertNotEqual(answer(desk.execute, line)[0], "value")
        for line in ("line", "pairs", "log", "partner ann", "finish", "rounds 3 a b", "reach a", "alike a / b"):
            desk.execute(line)
        self.assertEqual(desk.execute("again"), "come bob c")


class SideBySide(Keeping, unittest.TestCase):
    def test_two_desks(self):
        one, other = Desk(R), Desk(R)
        one.execute("come ann a")
        other.execute("come ann b")
        self.assertEqual((one.execute("line"), other.execute("line")), ("ann:a", "ann:b"))
        one.execute("back")
        self.assertEqual((one.execute("log"), other.execute("log")), ("-", "come ann b"))
        self.raised(Nothing, other.execute, "again")
        self.assertEqual(one.execute("again"), "come ann a")

    def test_told_the_same_they_answer_alike(self):
        chance = random.Random(147)
        maker = Deeds()
        desks = [Desk(R), Desk(Suits(KINDS[::-1], PAIRS[::-1])), Desk(R)]
        for _ in range(200):
            line = " ".join(maker.random_words(chance, KINDS, 9)) if chance.random() < 0.6 else chance.choice(RIGHT)
            answers = [answer(desk.execute, line) for desk in desks]
            self.assertEqual(answers[1:], answers[:1] * 2)

    def test_questions_change_nothing(self):
        desk = filled("come ann a", "come bob c", "come cyd a", "back")
        before = state(desk)
        for line in RIGHT:
            if line.split(" ")[0] not in ("come", "go", "late", "cut", "back"):
                first = desk.execute(line)
                self.assertIs(first.__class__, str)
                self.assertEqual([desk.execute(line) for _ in range(3)], [first] * 3)
        self.assertEqual(state(desk), before)


if __name__ == "__main__":
    unittest.main()
