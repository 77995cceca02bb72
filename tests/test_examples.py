"""The examples of the document, as they stand there."""

import unittest

from tests.test_errors import FIELDS

EXAMPLES = {
    "20": """
>>> from suitedpairs.errors import TooMany
>>> TooMany(7).limit
7
""",
    "21": """
>>> from suitedpairs.kinds import are_kinds, is_kind
>>> [is_kind('ab'), is_kind('aB'), are_kinds([]), are_kinds(['a', 'a']), are_kinds(('a',))]
[True, False, True, True, False]
""",
    "22": """
>>> from suitedpairs.suits import Suits
>>> suits = Suits(['a', 'b', 'c'], [('b', 'a'), ('b', 'c'), ('c', 'c')])
>>> [suits.pairs(), suits.mates(['a']), suits.mates(['a', 'c']), suits('b', 'b'), ('a', 'b') in suits, suits.many]
[[('a', 'b'), ('b', 'c'), ('c', 'c')], ['b'], ['b', 'c'], False, True, 3]
>>> [suits.calm_sets(), Suits.ring(['a', 'b', 'c', 'd']).pairs()]
[[[], ['a'], ['b']], [('a', 'b'), ('a', 'd'), ('b', 'c'), ('c', 'd')]]
""",
}


def shown(names, text):
    """What a line of an example shows: nothing, a value, or the error that it raises."""
    try:
        code = compile(text, "example", "eval")
    except SyntaxError:
        exec(text, names)
        return None
    try:
        return repr(eval(code, names))
    except ValueError as error:
        name = error.__class__.__name__
        return f"raises {name}({getattr(error, FIELDS[name])!r})"


class Examples(unittest.TestCase):
    def test_each(self):
        for point, text in EXAMPLES.items():
            names = {}
            lines = text.strip().split("\n")
            for at, line in enumerate(lines):
                if line.startswith(">>> "):
                    wanted = (lines[at + 1:] + [">>> "])[0]
                    with self.subTest(point=point, line=line):
                        self.assertEqual(shown(names, line[4:]), None if wanted.startswith(">>> ") else wanted)


if __name__ == "__main__":
    unittest.main()
