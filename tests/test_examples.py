"""The examples of the document, as they stand there."""

import unittest

from tests.test_errors import FIELDS

EXAMPLES = {
    "20": """
>>> from suitedpairs.errors import TooMany
>>> TooMany(7).limit
7
""",
    "21": """
>>> from suitedpairs.kinds import are_kinds, is_kind
>>> [is_kind('ab'), is_kind('aB'), are_kinds([]), are_kinds(['a', 'a']), are_kinds(('a',))]
[True, False, True, True, False]
""",
    "22": """
>>> from suitedpairs.suits import Suits
>>> suits = Suits(['a', 'b', 'c'], [('b', 'a'), ('b', 'c'), ('c', 'c')])
>>> [suits.pairs(), suits.mates(['a']), suits.mates(['a', 'c']), suits('b', 'b'), ('a', 'b') in suits, suits.many]
[[('a', 'b'), ('b', 'c'), ('c', 'c')], ['b'], ['b', 'c'], False, True, 3]
>>> [suits.calm_sets(), Suits.ring(['a', 'b', 'c', 'd']).pairs()]
[[[], ['a'], ['b']], [('a', 'b'), ('a', 'd'), ('b', 'c'), ('c', 'd')]]
""",
    "31": """
>>> from suitedpairs.lines import after, come, moments
>>> from suitedpairs.suits import Suits
>>> R = Suits(['a', 'b', 'c'], [('a', 'b'), ('b', 'c'), ('c', 'c')])
>>> [come(R, ['a', 'c', 'a'], 'c'), come(R, ['a'], 'a'), after(R, ['a'], ['c', 'b', 'b', 'c'])]
[(1, ['a', 'a']), (None, ['a', 'a']), ['c']]
>>> list(moments(R, ['a'], ['c', 'b', 'b', 'c']))
[['a', 'c'], ['c'], [], ['c']]
""",
    "33": """
>>> from suitedpairs.pairing import by_newcomers, by_persons, parted, partners
>>> from suitedpairs.suits import Suits
>>> R = Suits(['a', 'b', 'c'], [('a', 'b'), ('b', 'c'), ('c', 'c')])
>>> partners(R, ['a'], ['c', 'b', 'b', 'c'])
[2, 3, 0, 1, None]
>>> line, row = ['a', 'c', 'a'], ['c', 'a', 'b']
>>> [by_newcomers(R, line, row), by_persons(R, line, row), parted(R, line, row)]
[[1, None, 0], [2, 0, None], (['a'], ['a'])]
""",
    "40": """
>>> from suitedpairs.papers import are_right, fault
>>> from suitedpairs.suits import Suits
>>> R = Suits(['a', 'b', 'c'], [('a', 'b'), ('b', 'c'), ('c', 'c')])
>>> row = ['a', 'c', 'b', 'b']
>>> [are_right(R, row, [2, 3, 0, 1]), are_right(R, row, [3, 2, 1, 0]), fault(R, row, [3, 2, 1, 0]), fault(R, row, [2, None, 0, None])]
[True, False, (2, 0), (3, 1)]
""",
    "41": """
>>> from suitedpairs.films import backward, cut, finish
>>> from suitedpairs.suits import Suits
>>> R = Suits(['a', 'b', 'c'], [('a', 'b'), ('b', 'c'), ('c', 'c')])
>>> [backward(R, ['a', 'c', 'b', 'b']), cut(R, ['a', 'c', 'b', 'b'], 2), finish(R, ['a', 'c', 'a'])]
[['c', 'a', 'b', 'b'], (['a', 'c'], ['c', 'a']), ['b', 'b', 'b']]
>>> backward(R, ['a', 'a', 'b'])
raises NotComplete(1)
""",
    "42": """
>>> from suitedpairs.films import play, rewind
>>> from suitedpairs.suits import Suits
>>> R = Suits(['a', 'b', 'c'], [('a', 'b'), ('b', 'c'), ('c', 'c')])
>>> events = rewind(R, ['a', 'a', 'c', 'b'])
>>> [events, play(R, ['a', 'c'], events[:2]), play(R, ['a', 'c'], events)]
[[('come', 'a'), ('go', 'c'), ('go', 'a'), ('come', 'b')], ['a', 'a'], []]
""",
    "50": """
>>> from suitedpairs.distances import common, course, distance
>>> from suitedpairs.suits import Suits
>>> R = Suits(['a', 'b', 'c'], [('a', 'b'), ('b', 'c'), ('c', 'c')])
>>> [distance(['a', 'c', 'a'], ['c', 'a', 'a']), common(['a', 'c'], ['c']), course(R, ['a', 'c'], ['c', 'a'], ['b', 'b'])]
[2, [(1, 0)], [2, 2, 0]]
""",
    "51": """
>>> from suitedpairs.suits import Suits
>>> from suitedpairs.trails import given_up, trail
>>> R = Suits(['a', 'b', 'c'], [('a', 'b'), ('b', 'c'), ('c', 'c')])
>>> [trail(R, [], ['c', 'b'], 0, 'b'), given_up(R, ['a', 'a'], ['b', 'c', 'b', 'b'], 0)]
[[(1, -1), (-1, 0), (1, 1)], [(-1, 0), (-1, 1), (-1, 1), (-1, 3), (1, 5)]]
""",
    "60": """
>>> from suitedpairs.rounds import again, cycle
>>> from suitedpairs.suits import Suits
>>> R = Suits(['a', 'b', 'c'], [('a', 'b'), ('b', 'c'), ('c', 'c')])
>>> [cycle(R, [], ['a', 'b']), cycle(R, ['c'], ['a', 'b']), again(R, ['c'], ['a', 'b'], 10 ** 18)]
[(0, 1), (1, 1), ['a']]
>>> cycle(R, [], ['a', 'a', 'b'], limit=9)
raises TooMany(9)
""",
    "61": """
>>> from suitedpairs.crowds import crowd, excess, is_crowd, surplus
>>> from suitedpairs.suits import Suits
>>> R = Suits(['a', 'b', 'c'], [('a', 'b'), ('b', 'c'), ('c', 'c')])
>>> [excess(R, ['a', 'a', 'b'], ['a']), surplus(R, ['b', 'b'], ['a']), crowd(R, ['a', 'a', 'b']), crowd(R, ['c', 'c'])]
[1, -2, (1, ['a']), (0, [])]
>>> [is_crowd(R, ['a', 'a', 'b'], ['a']), is_crowd(R, ['a', 'a', 'b'], [])]
[True, False]
""",
    "71": """
>>> from suitedpairs.alike import compare, separates
>>> from suitedpairs.suits import Suits
>>> R = Suits(['a', 'b', 'c'], [('a', 'b'), ('b', 'c'), ('c', 'c')])
>>> [compare(R, ['b', 'a'], []), separates(R, ['b', 'a'], [], ['a', 'a'])]
[('apart', ['c']), False]
>>> compare(Suits(['a', 'b'], [('a', 'b')]), ['b', 'a'], [])
('alike', [(['b', 'a'], [], []), (['a'], [], ['a']), (['b'], [], ['b'])])
""",
    "80": """
>>> from suitedpairs.stuck import are_stuck, leave
>>> from suitedpairs.suits import Suits
>>> R = Suits(['a', 'b', 'c'], [('a', 'b'), ('b', 'c'), ('c', 'c')])
>>> [leave(R, ['a', 'a'], []), leave(R, ['a', 'c', 'a'], [0]), are_stuck(R, ['a', 'a'], [0], [1])]
[('row', ['b', 'b']), ('stuck', [2]), True]
""",
    "81": """
>>> from suitedpairs.reaching import fewest, kept
>>> from suitedpairs.suits import Suits
>>> R = Suits(['a', 'b', 'c'], [('a', 'b'), ('b', 'c'), ('c', 'c')])
>>> [kept(['a', 'c', 'a'], ['c', 'a'], 2), kept(['a', 'c', 'a'], ['a', 'c'], 2), fewest(R, ['a', 'c', 'a'], ['c', 'a'])]
[[1, 2], None, ('row', ['b'])]
>>> fewest(Suits(['a', 'b'], [('b', 'b')]), ['a'], [])
('never', [[0]])
""",
    "90": """
>>> from suitedpairs.ratios import Ratio
>>> [Ratio(6, -8), Ratio(1, 2) + Ratio(1, 3), Ratio(1, 2).less(Ratio(1, 3)), Ratio(2, 4) == Ratio(1, 2), bool(Ratio(0, 5))]
[Ratio(-3, 4), Ratio(5, 6), False, True, False]
""",
    "92": """
>>> from suitedpairs.shares import full, length, share, waiting
>>> from suitedpairs.suits import Suits
>>> R = Suits(['a', 'b', 'c'], [('a', 'b'), ('b', 'c'), ('c', 'c')])
>>> weights = [('a', 1), ('b', 2), ('c', 2)]
>>> [full(R, weights), full(R, [('a', 1), ('b', 2), ('c', 1)]), share(R, weights, []), share(R, weights, ['a', 'c'])]
[None, ['b'], Ratio(3, 16), Ratio(3, 64)]
>>> [waiting(R, weights, ['a', 'c']), length(R, weights, 1)]
[Ratio(5, 32), Ratio(5, 16)]
""",
    "93": """
>>> from suitedpairs.shares import joins, meets
>>> from suitedpairs.suits import Suits
>>> R = Suits(['a', 'b', 'c'], [('a', 'b'), ('b', 'c'), ('c', 'c')])
>>> weights = [('a', 1), ('b', 2), ('c', 2)]
>>> [meets(R, weights, 'b', 'a'), meets(R, weights, 'b', 'c'), joins(R, weights, 'b'), meets(R, weights, 'b', 'b')]
[Ratio(5, 16), Ratio(1, 8), Ratio(9, 16), Ratio(0, 1)]
""",
    "101": """
>>> from suitedpairs.books import Book
>>> from suitedpairs.suits import Suits
>>> book = Book(Suits(['a', 'b', 'c'], [('a', 'b'), ('b', 'c'), ('c', 'c')]))
>>> [book.come('ann', 'a'), book.come('bob', 'c'), book.come('cyd', 'b'), book.line(), book.pairs()]
[None, None, 'ann', [('bob', 'c')], [('ann', 'cyd')]]
>>> [book.late(0, ('come', 'dan', 'c')), book.line(), book.cut(1), book.line(), book.waiting]
[('fewer', 'bob'), [], ('more', 'cyd'), [('cyd', 'b')], 1]
""",
    "102": r"""
>>> from suitedpairs.notation import read_deeds, read_suits, show_row, show_suits
>>> from suitedpairs.suits import Suits
>>> [show_suits(Suits(['b', 'a'], [('b', 'b'), ('b', 'a')])), show_row([]), read_deeds('come ann a\ngo ann')]
['a b a-b b-b', '-', [('come', 'ann', 'a'), ('go', 'ann')]]
>>> read_suits('a b b-a')
raises NoText()
""",
    "103": """
>>> from suitedpairs.desk import Desk
>>> from suitedpairs.suits import Suits
>>> desk = Desk(Suits(['a', 'b', 'c'], [('a', 'b'), ('b', 'c'), ('c', 'c')]))
>>> [desk.execute('come ann a'), desk.execute('come bob c'), desk.execute('come cyd b'), desk.execute('line'), desk.execute('pairs')]
['-', '-', 'ann', 'bob:c', 'ann:cyd']
>>> [desk.execute('finish'), desk.execute('reach a'), desk.execute('rounds 9 a b'), desk.execute('alike b a / -'), desk.execute('cut 0')]
['b', '2', 'a', 'apart c', 'fewer bob']
""",
}


def shown(names, text):
    """What a line of an example shows: nothing, a value, or the error that it raises."""
    try:
        code = compile(text, "example", "eval")
    except SyntaxError:
        exec(text, names)
        return None
    try:
        return repr(eval(code, names))
    except ValueError as error:
        name = error.__class__.__name__
        return f"raises {name}({repr(getattr(error, FIELDS[name])) if name in FIELDS else ''})"


class Examples(unittest.TestCase):
    def test_each(self):
        for point, text in EXAMPLES.items():
            names = {}
            lines = text.strip().split("\n")
            for at, line in enumerate(lines):
                if line.startswith(">>> "):
                    wanted = (lines[at + 1:] + [">>> "])[0]
                    with self.subTest(point=point, line=line):
                        self.assertEqual(shown(names, line[4:]), None if wanted.startswith(">>> ") else wanted)


if __name__ == "__main__":
    unittest.main()
