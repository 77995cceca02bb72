"""The interface: each name is defined in the file under which the document lists it, with its arguments."""

import ast
import pathlib
import unittest

FOLDER = pathlib.Path(__file__).resolve().parent.parent / "suitedpairs"

FUNCTIONS = {
    "kinds": {"is_integer": ["thing"], "is_kind": ["thing"], "are_kinds": ["thing"]},
    "lines": {"is_line": ["suits", "thing"], "is_row": ["suits", "thing"], "come": ["suits", "line", "kind"],
              "after": ["suits", "line", "row"], "moments": ["suits", "line", "row"]},
    "pairing": {"partners": ["suits", "line", "row"], "by_newcomers": ["suits", "line", "row"],
                "by_persons": ["suits", "line", "row"], "parted": ["suits", "line", "row"]},
    "papers": {"are_links": ["row", "thing"], "are_right": ["suits", "row", "thing"],
               "fault": ["suits", "row", "links"]},
    "films": {"is_complete": ["suits", "row"], "backward": ["suits", "row"], "cut": ["suits", "row", "at"],
              "finish": ["suits", "line"], "play": ["suits", "line", "events"], "rewind": ["suits", "row"]},
    "distances": {"distance": ["one", "other"], "common": ["one", "other"], "is_common": ["one", "other", "thing"],
                  "course": ["suits", "one", "other", "row"]},
    "trails": {"trail": ["suits", "line", "row", "at", "kind"], "given_up": ["suits", "line", "row", "place"]},
    "crowds": {"excess": ["suits", "row", "kinds"], "surplus": ["suits", "line", "kinds"],
               "crowd": ["suits", "row"], "is_crowd": ["suits", "row", "thing"]},
    "rounds": {"cycle": ["suits", "line", "row", "*limit"], "is_cycle": ["suits", "line", "row", "thing"],
               "again": ["suits", "line", "row", "times", "*limit"]},
    "tables": {"is_table": ["suits", "one", "other", "thing"]},
    "alike": {"separates": ["suits", "one", "other", "line"], "compare": ["suits", "one", "other", "*limit"]},
    "stuck": {"leave": ["suits", "line", "kept"], "are_stuck": ["suits", "line", "kept", "thing"]},
}
ERRORS = ["SuitError", "Wrong", "BadPair", "NoKind", "NotComplete", "Lonely", "TooMany", "Crowded", "Taken",
          "NotWaiting", "Full", "Broken", "Nothing", "NoText", "NoCommand"]
METHODS = ["__init__", "__eq__", "__len__", "__repr__", "__contains__", "__call__", "many", "kinds", "pairs", "lonely",
           "mates", "is_calm", "calm_sets", "ring", "each"]


def defined(body, kind):
    """The functions or classes of a body, by name."""
    return {node.name: node for node in body if isinstance(node, kind)}


def parsed(name):
    """The statements of a file of the package."""
    return ast.parse((FOLDER / f"{name}.py").read_text(encoding="utf-8")).body


class Interface(unittest.TestCase):
    def test_functions(self):
        for name, functions in FUNCTIONS.items():
            found = defined(parsed(name), ast.FunctionDef)
            for function, arguments in functions.items():
                with self.subTest(function):
                    self.assertIn(function, found)
                    told = found[function].args
                    by_keyword = [f"*{one.arg}" for one in told.kwonlyargs]
                    self.assertEqual([one.arg for one in told.posonlyargs + told.args] + by_keyword, arguments)

    def test_errors(self):
        found = defined(parsed("errors"), ast.ClassDef)
        for name in ERRORS:
            self.assertIn(name, found)

    def test_suits(self):
        found = defined(parsed("suits"), ast.ClassDef)
        self.assertIn("Suits", found)
        methods = defined(found["Suits"].body, ast.FunctionDef)
        for name in METHODS:
            self.assertIn(name, methods)


if __name__ == "__main__":
    unittest.main()
