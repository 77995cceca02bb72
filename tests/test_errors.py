"""[20], [4]: the error classes."""

import unittest

from suitedpairs import errors
from suitedpairs.errors import SuitError
from tests.values import odd_values

FIELDS = {
    "Wrong": "place", "BadPair": "at", "NoKind": "kind", "NotComplete": "left", "Lonely": "kind", "TooMany": "limit",
    "Crowded": "members", "Taken": "name", "NotWaiting": "name", "Full": "limit", "Broken": "at",
}
PLAIN = ["Nothing", "NoText", "NoCommand"]


def made(name, value=None):
    """An error of this class, with the value if it takes one."""
    return getattr(errors, name)(*([value] if name in FIELDS else []))


class ErrorClasses(unittest.TestCase):
    def test_each_is_a_suit_error_and_a_value_error(self):
        self.assertTrue(issubclass(SuitError, ValueError))
        for name in [*FIELDS, *PLAIN]:
            with self.subTest(name):
                self.assertEqual(getattr(errors, name).__name__, name)
                self.assertTrue(issubclass(getattr(errors, name), SuitError))

    def test_none_is_another_one(self):
        names = [*FIELDS, *PLAIN]
        for name in names:
            for other in names:
                if name != other:
                    with self.subTest(name=name, other=other):
                        self.assertFalse(issubclass(getattr(errors, name), getattr(errors, other)))
        for name in names:
            self.assertFalse(issubclass(SuitError, getattr(errors, name)))

    def test_each_is_raised_and_caught(self):
        for name in [*FIELDS, *PLAIN]:
            for caught in (getattr(errors, name), SuitError, ValueError):
                with self.subTest(name=name, caught=caught), self.assertRaises(caught):
                    raise made(name, 3)

    def test_suit_error_is_constructed_as_value_error(self):
        for given in ([], ["a"], [3], [None], ["a", 1], [[], {}, ("a",)]):
            with self.subTest(given):
                self.assertEqual(SuitError(*given).args, ValueError(*given).args)
                self.assertEqual(str(SuitError(*given)), str(ValueError(*given)))

    def test_suit_error_is_none_of_its_subclasses(self):
        for name in [*FIELDS, *PLAIN]:
            self.assertNotIsInstance(SuitError("a"), getattr(errors, name))


class Fields(unittest.TestCase):
    def test_the_very_object_is_kept(self):
        for name, field in FIELDS.items():
            for value in odd_values():
                with self.subTest(name):
                    self.assertIs(getattr(made(name, value), field), value)

    def test_it_is_kept_when_raised(self):
        for name, field in FIELDS.items():
            given = ["a", ["b"]]
            with self.subTest(name), self.assertRaises(SuitError) as caught:
                raise made(name, given)
            self.assertIs(getattr(caught.exception, field), given)
            self.assertEqual(given, ["a", ["b"]])

    def test_later_changes_are_seen(self):
        for name, field in FIELDS.items():
            given = []
            error = made(name, given)
            given.append("a")
            self.assertEqual(getattr(error, field), ["a"])

    def test_errors_of_one_class_are_independent(self):
        for name, field in FIELDS.items():
            first, second = made(name, 1), made(name, 2)
            self.assertEqual([getattr(first, field), getattr(second, field)], [1, 2])


if __name__ == "__main__":
    unittest.main()
