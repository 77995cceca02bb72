"""The interface: each name is defined in the file under which the document lists it, with its arguments."""

import ast
import pathlib
import unittest

FOLDER = pathlib.Path(__file__).resolve().parent.parent / "suitedpairs"

FUNCTIONS = {
    "kinds": {"is_integer": ["thing"], "is_kind": ["thing"], "are_kinds": ["thing"]},
    "lines": {"is_line": ["suits", "thing"], "is_row": ["suits", "thing"], "come": ["suits", "line", "kind"],
              "after": ["suits", "line", "row"], "moments": ["suits", "line", "row"]},
    "pairing": {"partners": ["suits", "line", "row"], "by_newcomers": ["suits", "line", "row"],
                "by_persons": ["suits", "line", "row"], "parted": ["suits", "line", "row"]},
    "papers": {"are_links": ["row", "thing"], "are_right": ["suits", "row", "thing"],
               "fault": ["suits", "row", "links"]},
    "films": {"is_complete": ["suits", "row"], "backward": ["suits", "row"], "cut": ["suits", "row", "at"],
              "finish": ["suits", "line"], "play": ["suits", "line", "events"], "rewind": ["suits", "row"]},
    "distances": {"distance": ["one", "other"], "common": ["one", "other"], "is_common": ["one", "other", "thing"],
                  "course": ["suits", "one", "other", "row"]},
    "trails": {"trail": ["suits", "line", "row", "at", "kind"], "given_up": ["suits", "line", "row", "place"]},
    "crowds": {"excess": ["suits", "row", "kinds"], "surplus": ["suits", "line", "kinds"],
               "crowd": ["suits", "row"], "is_crowd": ["suits", "row", "thing"]},
    "rounds": {"cycle": ["suits", "line", "row", "*limit"], "is_cycle": ["suits", "line", "row", "thing"],
               "again": ["suits", "line", "row", "times", "*limit"]},
    "tables": {"is_table": ["suits", "one", "other", "thing"]},
    "alike": {"separates": ["suits", "one", "other", "line"], "compare": ["suits", "one", "other", "*limit"]},
    "stuck": {"leave": ["suits", "line", "kept"], "are_stuck": ["suits", "line", "kept", "thing"]},
    "reaching": {"kept": ["line", "goal", "many"], "fewest": ["suits", "line", "goal"],
                 "are_never": ["suits", "line", "goal", "thing"]},
    "sums": {"total": ["suits", "weights", "kinds"]},
    "shares": {"full": ["suits", "weights"], "share": ["suits", "weights", "line"],
               "waiting": ["suits", "weights", "kinds"], "length": ["suits", "weights", "many"],
               "mean": ["suits", "weights"], "meets": ["suits", "weights", "kind", "first"],
               "joins": ["suits", "weights", "kind"]},
    "notation": {"show_suits": ["suits"], "show_row": ["row"], "show_deeds": ["deeds"], "read_suits": ["text"],
                 "read_row": ["text"], "read_deeds": ["text"]},
}
ERRORS = ["SuitError", "Wrong", "BadPair", "NoKind", "NotComplete", "Lonely", "TooMany", "Crowded", "Taken",
          "NotWaiting", "Full", "Broken", "Nothing", "NoText", "NoCommand"]
CLASSES = {
    ("suits", "Suits"): {"__init__": ["kinds", "pairs"], "__eq__": None, "__len__": [], "__repr__": [],
                         "__contains__": None, "__call__": ["one", "other"], "many": [], "kinds": [], "pairs": [],
                         "lonely": [], "mates": ["kinds"], "is_calm": ["kinds"], "calm_sets": [], "ring": ["kinds"],
                         "each": ["kinds"]},
    ("ratios", "Ratio"): {"__init__": ["top", "bottom"], "__add__": None, "__sub__": None, "__mul__": None,
                          "__eq__": None, "__repr__": [], "__bool__": [], "top": [], "bottom": [], "less": ["other"]},
    ("books", "Book"): {"__init__": ["suits"], "__eq__": None, "__len__": [], "waiting": [], "come": ["name", "kind"],
                        "go": ["name"], "late": ["at", "deed"], "cut": ["at"], "back": [], "again": [], "line": [],
                        "pairs": [], "partner": ["name"], "log": [], "suits": [], "copied": []},
    ("desk", "Desk"): {"__init__": ["suits"], "execute": ["line"]},
}


def defined(body, kind):
    """The functions or classes of a body, by name."""
    return {node.name: node for node in body if isinstance(node, kind)}


def parsed(name):
    """The statements of a file of the package."""
    return ast.parse((FOLDER / f"{name}.py").read_text(encoding="utf-8")).body


class Interface(unittest.TestCase):
    def test_functions(self):
        for name, functions in FUNCTIONS.items():
            found = defined(parsed(name), ast.FunctionDef)
            for function, arguments in functions.items():
                with self.subTest(function):
                    self.assertIn(function, found)
                    told = found[function].args
                    by_keyword = [f"*{one.arg}" for one in told.kwonlyargs]
                    self.assertEqual([one.arg for one in told.posonlyargs + told.args] + by_keyword, arguments)

    def test_errors(self):
        found = defined(parsed("errors"), ast.ClassDef)
        for name in ERRORS:
            self.assertIn(name, found)

    def test_classes(self):
        for (file, name), methods in CLASSES.items():
            found = defined(parsed(file), ast.ClassDef)
            self.assertIn(name, found)
            told = defined(found[name].body, ast.FunctionDef)
            for method, arguments in methods.items():
                with self.subTest(name=name, method=method):
                    self.assertIn(method, told)
                    if arguments is not None:
                        # Behind the object itself, or the class.
                        self.assertEqual([one.arg for one in told[method].args.args][1:], arguments)


if __name__ == "__main__":
    unittest.main()
