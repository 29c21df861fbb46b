"""Values for the tests, and the check of an error with the value that it carries."""

import itertools
import random


def nested(depth):
    """Return a value in tuples and lists by turns, so many deep."""
    value = 1
    for level in range(depth):
        value = [value] if level % 2 else (value,)
    return value


ANY_VALUES = (
    0, 1, 2, 3, 4, 5, 6, 7, 11, 12, 13, -1, -2, 10 ** 29, -(10 ** 29), 10 ** 30 - 1,
    True, False, None,
    "", "0", "1", "missed", "twice", "swapped", "once", "blank", "none", "first", "clear", "keep",
    "Missed", "missed ", " none", "firs", "missed twice", "\n", "a" * 3000,
    (), [], (1,), [1], (1, 4), [1, 4], (True, 4), (1, True), ("missed",), ["missed"], ["missed", "twice"],
    (None,), [None, [True, ("none", [])]], ([1], [2]), nested(9), nested(10),
)


def shown(value):
    """Return what tells a value from all others, True from 1 too."""
    return repr(value)


def without(right):
    """Return the values of all kinds but the right ones."""
    rights = [shown(value) for value in right]
    return [value for value in ANY_VALUES if shown(value) not in rights]


def wrong_numbers(least, most):
    """Return values of all kinds that are no numbers from least to most."""
    return [least - 1, most + 1] + without(range(least, most + 1))


def drawn_values(seed, many):
    """Return so many drawn values of all kinds."""
    source = random.Random(seed)
    return [drawn_value(source, 10) for _ in range(many)]


def drawn_value(source, depth):
    kind = source.randrange(7 if depth else 5)
    if kind == 0:
        return source.randint(-20, 20)
    if kind == 1:
        return source.choice((-1, 1)) * source.randrange(10 ** 30)
    if kind == 2:
        return source.choice((True, False, None))
    if kind == 3:
        return source.choice(("missed", "none", "", "belts", "a b\nc"))
    if kind == 4:
        return "".join(source.choice("abcxyz ~\n") for _ in range(source.randrange(20)))
    items = [drawn_value(source, depth - 1) for _ in range(source.randrange(4))]
    return tuple(items) if kind == 5 else items


def subsets(items):
    """Return all parts of the items, as tuples in the same order."""
    items = tuple(items)
    return [part for many in range(len(items) + 1) for part in itertools.combinations(items, many)]


def assert_refused(case, error, value, call, *given, **named):
    """Check that the call raises just this error, with just this value."""
    with case.assertRaises(error) as caught:
        call(*given, **named)
    case.assertIs(type(caught.exception), error)
    case.assertEqual(caught.exception.code, error.__name__)
    attribute = "name" if error.__name__ == "InvalidField" else "given"
    case.assertEqual(shown(getattr(caught.exception, attribute)), shown(value))
