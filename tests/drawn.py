"""Values for the tests, and the check of an error with the value that it carries."""

import itertools
import random

from ownchute.lines import Line
from ownchute.plants import Plant
from ownchute.trackers import Tracker
from tests.model import Model


def nested(depth):
    """Return a value in tuples and lists by turns, so many deep."""
    value = 1
    for level in range(depth):
        value = [value] if level % 2 else (value,)
    return value


ANY_VALUES = (
    0, 1, 2, 3, 4, 5, 6, 7, 11, 12, 13, -1, -2, 10 ** 29, -(10 ** 29), 10 ** 30 - 1,
    True, False, None,
    "", "0", "1", "missed", "twice", "swapped", "once", "blank", "none", "first", "clear", "keep",
    "Missed", "missed ", " none", "firs", "missed twice", "\n", "a" * 3000,
    (), [], (1,), [1], (1, 4), [1, 4], (True, 4), (1, True), ("missed",), ["missed"], ["missed", "twice"],
    (None,), [None, [True, ("none", [])]], ([1], [2]), nested(9), nested(10),
)


def shown(value):
    """Return what tells a value from all others, True from 1 too."""
    return repr(value)


def without(right):
    """Return the values of all kinds but the right ones."""
    rights = [shown(value) for value in right]
    return [value for value in ANY_VALUES if shown(value) not in rights]


def wrong_numbers(least, most):
    """Return values of all kinds that are no numbers from least to most."""
    return [least - 1, most + 1] + without(range(least, most + 1))


def drawn_values(seed, many):
    """Return so many drawn values of all kinds."""
    source = random.Random(seed)
    return [drawn_value(source, 10) for _ in range(many)]


def drawn_value(source, depth):
    kind = source.randrange(7 if depth else 5)
    if kind == 0:
        return source.randint(-20, 20)
    if kind == 1:
        return source.choice((-1, 1)) * source.randrange(10 ** 30)
    if kind == 2:
        return source.choice((True, False, None))
    if kind == 3:
        return source.choice(("missed", "none", "", "belts", "a b\nc"))
    if kind == 4:
        return "".join(source.choice("abcxyz ~\n") for _ in range(source.randrange(20)))
    items = [drawn_value(source, depth - 1) for _ in range(source.randrange(4))]
    return tuple(items) if kind == 5 else items


def subsets(items):
    """Return all parts of the items, as tuples in the same order."""
    items = tuple(items)
    return [part for many in range(len(items) + 1) for part in itertools.combinations(items, many)]


def drawn_line(source, many):
    """Return a drawn line with so many belts."""
    return Line(*[source.randint(1, 3) for _ in range(many)],
                scans=source.choice(subsets(range(1, many))),
                slips=(source.choice((0, 1, 1, 2, 2, 3)), source.randint(1, 6)),
                words=source.choice(subsets(("missed", "twice", "swapped"))),
                stretch=source.choice((None, None, 1, 2, 3, 5, 12)))


def drawn_tracker(source, many):
    """Return a drawn tracker with so many rooms."""
    return Tracker(*[source.randint(1, 4) for _ in range(many)],
                   seek=source.randint(0, 3),
                   empty=source.choice(("blank", "none")),
                   strange=source.choice(("first", "none")),
                   pause=source.choice(("clear", "keep")))


def drawn_plant(source, many):
    """Return a drawn plant with so many belts."""
    return Plant(drawn_line(source, many), drawn_tracker(source, many))


def drawn_plants(seed, many):
    """Return so many drawn plants, with one, two and three belts by turns."""
    source = random.Random(seed)
    return [drawn_plant(source, 1 + turn % 3) for turn in range(many)]


def drawn_flow(source, plant, many):
    """Return a drawn flow of so many deeds."""
    model = Model(plant)
    for _ in range(many):
        model.do(drawn_deed(source, model))
    return model.flow


def drawn_deed(source, model):
    """Return a deed that is possible; slips and deeds without slips are about as frequent."""
    deeds = model.deeds()
    plain = [deed for deed in deeds if deed[-1] == "once"]
    return source.choice(plain if plain and source.random() < 0.4 else deeds)


ATTRIBUTES = {"InvalidField": "name", "InvalidText": "at", "InvalidDeed": "at", "NotNow": "at", "InvalidOffer": "at",
              "TooMany": "most", "NothingLeft": None, "Unlike": None, "DuplicateName": "name", "UnknownName": "name",
              "Full": "most", "InvalidCommand": "at", "InvalidPage": "at"}


def assert_refused(case, error, value, call, *given, **named):
    """Check that the call raises just this error, with just this value."""
    with case.assertRaises(error) as caught:
        call(*given, **named)
    case.assertIs(type(caught.exception), error)
    case.assertEqual(caught.exception.code, error.__name__)
    attribute = ATTRIBUTES.get(error.__name__, "given")
    if attribute is not None:
        case.assertEqual(shown(getattr(caught.exception, attribute)), shown(value))
