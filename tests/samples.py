"""The webs of the document's examples, values of wrong kinds, and a check of errors."""

from wheelgrown.base.webs import Web, full_web, ring_web

WHEEL = Web.from_lines("tie a b", "tie b c", "tie c d", "tie a d", "tie a h", "tie b h", "tie c h", "tie d h")
PRISM = Web.of_ties(("a", "b"), ("a", "c"), ("b", "c"), ("d", "e"), ("d", "f"), ("e", "f"),
                    ("a", "d"), ("b", "e"), ("c", "f"))
FIVE = full_web(("a", "b", "c", "d", "e"))
GLUED = full_web(("a", "b", "c", "d")) + full_web(("a", "b", "e", "f"))
BOW = ring_web(("a", "b", "c")) + Web.of_ties(("c", "d"), ("c", "e"), ("d", "e"), ("e", "f"))
FOUR = full_web(("a", "b", "c", "d"))
SINGLE = Web(("a",), ())
PAIR = Web(("a", "b"), (("a", "b"),))
APART = Web(("a", "b"), ())
LETTERS = tuple("abcdefghijklmnopqrst")


def nested(depth):
    """A value that is nested so deep, of tuples, lists and dicts in turn."""
    value = "a"
    for level in range(depth):
        value = ((value,), [value], {"a": value})[level % 3]
    return value


# Values that are no web, no tuple and no name, as the document allows them to be passed.
ODD = (
    None, True, False, 0, 1, 3, -1, 10 ** 59, 10 ** 60, -10 ** 99, "", "A", "ab1", "a b", "a\n", "abcdefghi", "a" * 4000,
    [], ["a"], ["a", "b"], ["a", "b", "c", "d"], [("a", "b")], {}, {"a": "b"}, {"a": "b", "b": "a"}, {1: 2}, {None: ["a"]},
    nested(8), nested(6),
)
# Tuples that hold what no tuple of names holds.
ODD_TUPLES = (
    (None,), (True,), (0,), (1, 2), (1, 2, 3, 4), ("A",), ("a", "b "), ("a", None), (None, "a"), ("a", "b", 3), ("a", ["b"]),
    (["a"], "b", "c"), ({"a": "b"}, "c", "d"), (("a",),), (("a", "b"), "c", "d"), ("a", "b", WHEEL), (WHEEL, "a", "b"),
    ("a", ("b", "c", ["d"])), ("", "a", "b"), ("abcdefghi", "b", "c"), (10 ** 60, "a", "b"), (nested(7),), nested(7),
    ("a", "b", "c", {}), (("a", {"b": ["c"]}), ("d", None)),
)
NOT_NAMES = ODD + ODD_TUPLES + ((), ("a",), ("a", "b"), WHEEL)
NOT_TUPLES = ODD + ("a", WHEEL)
NOT_WEBS = ODD + ODD_TUPLES + ((), ("a",), "a", (WHEEL,), [WHEEL], (("a",), ()))
NOT_SIZES = (
    None, True, False, 2, 0, -3, 17, 10 ** 59, 10 ** 60, "3", "", "abc", (), (3,), [3], {3: 3}, WHEEL, nested(8),
)
SOME_WEBS = (
    WHEEL, PRISM, FIVE, GLUED, BOW, FOUR, SINGLE, PAIR, APART, ring_web(("a", "c", "b", "d")),
    Web(("a", "b", "c"), ()), Web(LETTERS[:16], ()), full_web(LETTERS[:11]), ring_web(LETTERS[:16]),
    Web(("a", "b", "c"), (("a", "c"),)), ring_web(("a", "b", "c")) + Web(("z",), ()),
    ring_web(("a", "b", "c")) + ring_web(("x", "y", "z")), Web.of_ties(("abcdefgh", "b"), ("b", "zzzzzzzz")),
)


def check_error(case, kind, call, *passed, **kept):
    """Check that the call raises an error of just this class that keeps just these values."""
    with case.assertRaises(Exception) as caught:
        call(*passed)
    error = caught.exception
    case.assertIs(error.__class__, kind, f"{error!r} from {call} with {passed!r}")
    for name, value in kept.items():
        case.assertEqual(getattr(error, name), value)
        case.assertIs(getattr(error, name).__class__, value.__class__)
    return error


# What a thing within a right value is bent to.
BENT = (None, True, False, 0, 1, 2, "", "a", "z", "A", "a b", (), ("a",), ("a", "b"), [], ["a"], {}, {"a": "b"}, WHEEL)


def bent(value):
    """The values that come of bending one thing within a value, or of leaving it out, doubling or moving it."""
    yield from BENT
    if isinstance(value, tuple):
        yield list(value)
        yield from (value[:-1], value[1:], value[::-1], value + value[-1:], value[:1] + value, value + (None,))
        for index, item in enumerate(value):
            for other in bent(item):
                yield value[:index] + (other,) + value[index + 1:]
    elif isinstance(value, dict):
        yield list(value)
        yield tuple(value.items())
        yield {**value, "zz": "a"}
        for key, item in value.items():
            rest = {other: value[other] for other in value if other != key}
            yield rest
            yield {**rest, "zz": item}
            for other in bent(item):
                yield {**value, key: other}
    elif isinstance(value, int):
        yield from (value + 1, value - 1, bool(value), str(value))
