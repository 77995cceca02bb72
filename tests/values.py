"""Values of many kinds to pass in, and ways to look into what comes back."""


def nested(depth):
    """A list in a list, so many deep."""
    value = []
    for _ in range(depth - 1):
        value = [value]
    return value


def odd_values():
    """Fresh values of many kinds, none of which is a list of kinds, a pair or a relation's line."""
    return [
        None, True, False, 0, 1, -1, 7, 10 ** 39, -(10 ** 39), "", "A", "a b", "a-b", "abcdefghi", "a1", "a\n",
        "Suits(['a'], [])", b"", b"a", b"ab", (), (1,), (None, None), (True, "a"), ("a",), ("a", "b", "c"),
        ("a", ["b"]), (["a"], "b"), ({}, {}), (("a", "b"),), [None], [True], [0], [""], ["A"], ["a", 1], ["a", None],
        ["a", ["b"]], [["a"]], [("a", "b")], [[]], [{}], [set()], {}, {"a": 1}, {"a": "b"}, {1: ["a"]}, set(), {"a"},
        {"a", "b"}, frozenset("ab"), range(0), range(3), object(), object, int, len, odd_values, ValueError("a"),
        nested(8), tuple(nested(7)), [nested(7), "a"], [0] * 20000, [None] * 24000, (0,) * 24000, "a" * 20000,
        ["a"] * 20000 + [0], [["a"]] * 10000, {number: "a" for number in range(10000)}, iter([]),
    ]


def lists_in(value):
    """All lists in a value, itself included, as they are met."""
    found = []
    if isinstance(value, list):
        found.append(value)
    if isinstance(value, (list, tuple)):
        for item in value:
            found.extend(lists_in(item))
    return found


def spoil(value):
    """Change every list in a value."""
    for one in lists_in(value):
        one.reverse()
        one.append("spoilt")
        one.insert(0, None)


def all_lists(items, length):
    """All lists of items of this length, in the order of the items."""
    found = [[]]
    for _ in range(length):
        found = [one + [item] for one in found for item in items]
    return found


def all_lists_up_to(items, most):
    """All lists of at most so many items."""
    return [one for length in range(most + 1) for one in all_lists(items, length)]


class Keeping:
    """What every callable promises of lists: mixed into a TestCase."""

    def assert_keeps(self, call, *arguments):
        """The arguments stay, and what is returned is new each time and may be changed."""
        before = repr(arguments)
        first = call(*arguments)
        told = repr(first)
        self.assertEqual(repr(arguments), before)
        own = lists_in(first)
        self.assertEqual(len({id(one) for one in own}), len(own), "a list stands at two places of one result")
        passed = {id(one) for one in lists_in(arguments)}
        self.assertFalse([one for one in own if id(one) in passed], "a list that was passed in is returned")
        second = call(*arguments)
        self.assertEqual(repr(second), told)
        spoil(first)
        self.assertEqual(repr(second), told)
        self.assertEqual(repr(arguments), before)
        self.assertEqual(repr(call(*arguments)), told)
        spoil(second)
        self.assertEqual(repr(call(*arguments)), told)

    def assert_truth(self, value, wanted):
        """The value is the very True or False."""
        self.assertIs(value, bool(wanted))

    def raised(self, kind, call, *arguments):
        """The error of exactly this class that a call raises."""
        with self.assertRaises(kind) as caught:
            call(*arguments)
        self.assertIs(caught.exception.__class__, kind)
        return caught.exception
