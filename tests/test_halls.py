"""Promises 46 to 51: halls, their commands, steps, words and limits."""

import itertools
import random
import unittest

from ownchute.errors import (DuplicateName, Full, InvalidCommand, InvalidLimit, InvalidName, InvalidOffer, InvalidText,
                             NothingLeft, TooMany, UnknownName)
from ownchute.halls import Hall
from ownchute.plants import Plant
from ownchute.runs import Run
from ownchute.verdicts import judged
from tests.drawn import ANY_VALUES, assert_refused, drawn_values, shown, without, wrong_numbers
from tests.hall_model import LARGE, TEXTS, HallModel, assert_told, told
from tests.test_plants import offers_of

NAMES = ("a", "b", "ab", "z", "none", "plant", "abcdefgh")
WRONG_NAMES = ("", "A", "aB", "abcdefghi", "a b", "a1", "a\n", " a", "a_", "_", "a" * 3000, 1, 0, True, None, (), [],
               ("a",), ["a"], [["a"]])
WRONG_COMMANDS = ((), ("keep",), ("keep", "a"), ("keep", "a", TEXTS[0], 1), ("change", "a"), ("drop",),
                  ("drop", "a", 1), ("change", "a", "seek", 1), ("Keep", "a", TEXTS[0]), ("undo",), ("", "a"),
                  (["drop"], "a"), (("drop",), "a"), (True, "a"), (None, "a", "b"), ["drop", "a"],
                  ["keep", "a", TEXTS[0]], ("drop a",), "drop a", "drop", ("keep", ("a", TEXTS[0])))


def hall_with(*texts, limit=6):
    """Return a hall with the texts under the names a, b, c and so on, each kept by a step."""
    hall = Hall(limit=limit)
    for name, text in zip("abcdefghijkl", texts):
        hall.apply(("keep", name, text))
    return hall


def drawn_command(source, model):
    """Return a command that is often possible; its values are sometimes of any kind."""
    name = source.choice(sorted(model.plants) * 2 + list(NAMES))
    if source.random() < 0.06:
        name = source.choice(WRONG_NAMES)
    word = source.choice(("keep", "keep", "change", "change", "drop"))
    if word == "drop":
        return word, name
    if word == "keep":
        return word, name, source.choice(TEXTS + ("belts 1", None) if source.random() < 0.2 else TEXTS)
    offer = source.choice(offers_of(2 if source.random() < 0.3 else 1))
    return word, name, source.choice(ANY_VALUES) if source.random() < 0.06 else offer


class Turns:
    """A hall and a model of it that take drawn turns."""

    def __init__(self, case, source, limit):
        self.case, self.source = case, source
        self.hall, self.model = Hall(limit=limit), HallModel(limit)
        self.errors = []

    def turn(self):
        choice = self.source.randrange(12)
        if choice < 6:
            self.apply()
        elif choice < 9:
            self.step_back_or_on()
        elif choice < 11:
            self.ask()
        else:
            self.set_limit()
        assert_told(self.case, self.hall, self.model)
        for name in NAMES:
            self.case.assertIs(name in self.hall, name in self.model.plants)

    def apply(self):
        commands = [drawn_command(self.source, self.model) for _ in range(self.source.choice((0, 1, 1, 1, 2, 3)))]
        if self.source.random() < 0.08:
            commands.insert(self.source.randint(0, len(commands)), self.source.choice(WRONG_COMMANDS + ANY_VALUES))
        error = self.model.error(commands)
        if error:
            self.errors.append(error[0].__name__)
            assert_refused(self.case, *error, self.hall.apply, *commands)
        else:
            self.case.assertIsNone(self.hall.apply(*commands))
            self.model.apply(commands)

    def step_back_or_on(self):
        word = self.source.choice(("undo", "undo", "redo"))
        error = getattr(self.model, word)()
        if error:
            assert_refused(self.case, error, None, getattr(self.hall, word))
        else:
            self.case.assertIsNone(getattr(self.hall, word)())

    def ask(self):
        name = self.source.choice(sorted(self.model.plants) * 3 + list(NAMES) + list(WRONG_NAMES)[:2])
        if name in self.model.plants:
            word = judged(Plant.read(self.model.plants[name])).word
            self.case.assertEqual(shown(self.hall.word_of(name)), shown(word))
            self.model.word_of(name, word)
        else:
            assert_refused(self.case, UnknownName, name, self.hall.word_of, name)
            assert_refused(self.case, UnknownName, name, self.hall.plant_of, name)

    def set_limit(self):
        value = self.source.choice(list(range(-1, 14)) + [True, None, "6"])
        error = self.model.limit_error(value)
        if error:
            assert_refused(self.case, error, value, self.hall.set_limit, value)
        else:
            self.case.assertIsNone(self.hall.set_limit(value))
            self.model.limit = value


class DrawnTurns(unittest.TestCase):

    def test_turns(self):
        errors = []
        for seed in range(60):
            source = random.Random(seed + 221)
            turns = Turns(self, source, source.randint(1, 12))
            for _ in range(80):
                turns.turn()
            errors += turns.errors
        self.assertEqual(set(errors), {"InvalidCommand", "InvalidName", "DuplicateName", "Full", "InvalidText",
                                       "UnknownName", "InvalidOffer"})

    def test_twins(self):
        for seed in range(30):
            source = random.Random(seed + 251)
            turns = Turns(self, source, 6)
            for _ in range(30):
                turns.turn()
            other = Turns(self, source, 6)
            other.hall, other.model = turns.hall.twin(), turns.model.copy()
            self.assertTrue(turns.hall == other.hall)
            for _ in range(40):
                source.choice((turns, other)).turn()
                assert_told(self, turns.hall, turns.model)
                assert_told(self, other.hall, other.model)
                equal = turns.model.plants == other.model.plants
                self.assertIs(turns.hall == other.hall, equal)
                self.assertIs(other.hall != turns.hall, not equal)


class Commands(unittest.TestCase):

    def test_keep(self):
        hall = Hall()
        hall.apply(("keep", "b", TEXTS[0]))
        hall.apply(("keep", "a", TEXTS[1]))
        self.assertEqual(told(hall), (["a", "b"], [TEXTS[1], TEXTS[0]], [], 0, 6, (2, 0), False, 2, "Hall(2 plants)"))
        self.assertEqual(hall.plant_of("b"), Plant.read(TEXTS[0]))
        self.assertIs(type(hall.plant_of(name="a")), Plant)
        self.assertEqual(repr(Hall()), "Hall(0 plants)")
        self.assertEqual(repr(hall_with(TEXTS[0])), "Hall(1 plants)")

    def test_errors_of_keep_in_their_order(self):
        hall = hall_with(TEXTS[0], limit=1)
        for name in WRONG_NAMES:
            assert_refused(self, InvalidName, name, hall.apply, ("keep", name, None))
        assert_refused(self, DuplicateName, "a", hall.apply, ("keep", "a", None))
        assert_refused(self, Full, 1, hall.apply, ("keep", "b", None))
        hall.set_limit(2)
        for text in ("", TEXTS[0] + " ", TEXTS[0] + "\n", 1, None, [TEXTS[0]], (TEXTS[0],), TEXTS[0].upper()):
            assert_refused(self, InvalidText, 0, hall.apply, ("keep", "b", text))
        self.assertEqual(told(hall), (["a"], [TEXTS[0]], [], 0, 2, (1, 0), False, 1, "Hall(1 plants)"))

    def test_names_have_one_to_eight_lowercase_letters(self):
        for name in ("a", "z", "ab", "abcdefgh", "keep", "zzzzzzzz"):
            hall = Hall()
            hall.apply(("keep", name, TEXTS[0]))
            self.assertEqual(hall.names(), [name])
        for name in drawn_values(261, 300) + list(ANY_VALUES):
            if not (isinstance(name, str) and 1 <= len(name) <= 8 and not name.strip("abcdefghijklmnopqrstuvwxyz")):
                assert_refused(self, InvalidName, name, Hall().apply, ("keep", name, TEXTS[0]))

    def test_change(self):
        hall = hall_with(TEXTS[0])
        for at, offer in enumerate(offers_of(1)):
            expected = hall.plant_of("a").with_offers(offer)
            hall.apply(("change", "a", offer))
            self.assertEqual(hall.plant_of("a"), expected)
            self.assertEqual(hall.history(), (at + 2, 0))
        before = told(hall)
        for value in without([]) + [list(offers_of(1)[0]), ("scan", 1), ("seek", 4), ("room", 2, 1)]:
            assert_refused(self, InvalidOffer, 0, hall.apply, ("change", "a", value))
            assert_refused(self, UnknownName, "b", hall.apply, ("change", "b", value))
        self.assertEqual(told(hall), before)

    def test_drop(self):
        hall = hall_with(*TEXTS[:3])
        hall.apply(("drop", "b"))
        self.assertEqual((hall.names(), len(hall), "b" in hall, "a" in hall), (["a", "c"], 2, False, True))
        for name in WRONG_NAMES + ("b", "d"):
            for command in (("drop", name), ("change", name, ("seek", 1)), ("change", name, None)):
                assert_refused(self, UnknownName, name, hall.apply, command)
            assert_refused(self, UnknownName, name, hall.plant_of, name)
            assert_refused(self, UnknownName, name, hall.word_of, name)
            self.assertIs(name in hall, False)
        self.assertEqual(hall.history(), (4, 0))

    def test_any_value_in_hall(self):
        hall = hall_with(TEXTS[0])
        for value in list(ANY_VALUES) + drawn_values(262, 100) + [["a"], ("a",), "A", "a "]:
            self.assertIs(value in hall, False)
        self.assertIs("a" in hall, True)


class Calls(unittest.TestCase):

    def test_values_that_are_no_commands(self):
        hall = hall_with(TEXTS[0])
        before = told(hall)
        bad = ("drop", "nobody")
        for value in WRONG_COMMANDS + ANY_VALUES:
            for at in range(4):
                commands = [("change", "a", ("seek", 1)), bad, ("keep", "A", None)][:at]
                assert_refused(self, InvalidCommand, at, hall.apply, *commands, value, bad, None)
                self.assertEqual(told(hall), before)

    def test_all_or_none(self):
        hall = hall_with(TEXTS[0])
        hall.apply(("drop", "a"))
        hall.undo()
        hall.word_of("a")
        before = told(hall)
        good = [("change", "a", ("room", 1, 1)), ("keep", "b", TEXTS[2]), ("drop", "a")]
        for bad, error, value in ((("drop", "x"), UnknownName, "x"), (("keep", "b", 1), DuplicateName, "b"),
                                  (("keep", "", 1), InvalidName, ""), (("change", "b", None), InvalidOffer, 0),
                                  (("keep", "c", "x"), InvalidText, 0), (("change", "a", None), UnknownName, "a")):
            assert_refused(self, error, value, hall.apply, *good, bad)
            self.assertEqual(told(hall), before)
        hall.apply(*good)
        self.assertEqual((hall.names(), hall.history(), hall.kept()), (["b"], (2, 0), []))
        hall.undo()
        self.assertEqual(hall.names(), ["a"])

    def test_call_without_commands_is_no_step(self):
        hall = hall_with(TEXTS[0], TEXTS[1])
        hall.undo()
        hall.word_of("a")
        before = told(hall)
        self.assertIsNone(hall.apply())
        self.assertEqual(told(hall), before)
        self.assertEqual(hall.history(), (1, 1))
        hall.redo()
        self.assertEqual(hall.names(), ["a", "b"])

    def test_errors_stand_for_the_plants_of_their_turn(self):
        hall = hall_with(TEXTS[0], limit=1)
        assert_refused(self, Full, 1, hall.apply, ("keep", "b", TEXTS[1]), ("drop", "a"))
        hall.apply(("drop", "a"), ("keep", "b", TEXTS[1]))
        assert_refused(self, UnknownName, "b", hall.apply, ("drop", "b"), ("drop", "b"))
        hall.apply(("change", "b", ("seek", 3)), ("drop", "b"), ("keep", "b", TEXTS[1]), ("change", "b", ("seek", 2)))
        self.assertEqual(hall.plant_of("b").tracker.seek, 2)
        self.assertIs(hall.busy, False)

    def test_busy_behind_each_call(self):
        hall = hall_with(TEXTS[0])
        for commands in ([], [("drop", "x")], [None], [("drop", "a")]):
            try:
                hall.apply(*commands)
            except (InvalidCommand, UnknownName):
                pass
            self.assertIs(hall.busy, False)
        hall.undo()
        self.assertIs(hall.busy, False)


class Steps(unittest.TestCase):

    def test_undo_and_redo(self):
        hall = Hall()
        texts = []
        for at, name in enumerate("abc"):
            hall.apply(("keep", name, TEXTS[at]))
            texts.append(hall.names())
        for at in (2, 1, 0):
            self.assertEqual((hall.names(), hall.history()), (texts[at], (at + 1, 2 - at)))
            self.assertIsNone(hall.undo())
        assert_refused(self, NothingLeft, None, hall.undo)
        self.assertEqual((hall.names(), hall.history()), ([], (0, 3)))
        for at in range(3):
            self.assertIsNone(hall.redo())
            self.assertEqual(hall.names(), texts[at])
        assert_refused(self, NothingLeft, None, hall.redo)
        hall.undo()
        hall.apply(("drop", "a"))
        self.assertEqual((hall.names(), hall.history()), (["b"], (3, 0)))
        assert_refused(self, NothingLeft, None, hall.redo)

    def test_refused_step_keeps_what_can_be_redone(self):
        hall = hall_with(*TEXTS[:2])
        hall.undo()
        assert_refused(self, UnknownName, "b", hall.apply, ("drop", "b"))
        assert_refused(self, InvalidCommand, 0, hall.apply, None)
        assert_refused(self, InvalidLimit, 0, hall.set_limit, 0)
        self.assertEqual(hall.history(), (1, 1))
        hall.redo()
        self.assertEqual(hall.names(), ["a", "b"])

    def test_undo_and_redo_do_not_look_at_the_limit(self):
        hall = hall_with(*TEXTS[:4])
        hall.apply(("drop", "a"), ("drop", "b"), ("drop", "c"))
        hall.set_limit(1)
        hall.undo()
        self.assertEqual((len(hall), hall.limit, hall.history()), (4, 1, (4, 1)))
        assert_refused(self, Full, 1, hall.apply, ("keep", "x", TEXTS[0]))
        assert_refused(self, InvalidLimit, 3, hall.set_limit, 3)
        assert_refused(self, InvalidLimit, 1, hall.set_limit, 1)
        hall.apply(("drop", "a"))
        self.assertEqual((len(hall), hall.limit), (3, 1))
        hall.set_limit(3)
        hall.undo()
        hall.undo()
        self.assertEqual((hall.limit, len(hall), hall.history()), (3, 3, (3, 2)))
        hall.redo()
        hall.redo()
        self.assertEqual((hall.limit, hall.names()), (3, ["b", "c", "d"]))

    def test_limit_is_not_part_of_the_steps(self):
        hall = hall_with(TEXTS[0])
        hall.set_limit(2)
        hall.apply(("keep", "b", TEXTS[0]))
        hall.limit = 9
        self.assertEqual(hall.history(), (2, 0))
        hall.undo()
        hall.undo()
        self.assertEqual(hall.limit, 9)
        hall.set_limit(1)
        self.assertEqual(hall.history(), (0, 2))
        hall.redo()
        hall.redo()
        self.assertEqual((hall.limit, len(hall)), (1, 2))


class Words(unittest.TestCase):

    def test_word_is_kept_and_not_computed_again(self):
        hall = hall_with(*TEXTS[:3])
        for name, word in (("b", "safe"), ("a", "astray"), ("b", "safe"), ("a", "astray")):
            self.assertEqual(shown(hall.word_of(name)), shown(word))
        self.assertEqual((hall.kept(), hall.computed, hall.history()), (["a", "b"], 2, (3, 0)))
        self.assertEqual(hall.word_of(name="c"), judged(hall.plant_of("c")).word)
        self.assertEqual((hall.kept(), hall.computed), (["a", "b", "c"], 3))

    def test_steps_of_other_plants(self):
        hall = hall_with(*TEXTS[:3])
        for name in "abc":
            hall.word_of(name)
        hall.apply(("change", "b", ("seek", 1)))
        self.assertEqual(hall.kept(), ["a", "c"])
        hall.apply(("drop", "c"))
        self.assertEqual(hall.kept(), ["a"])
        hall.undo()
        hall.undo()
        self.assertEqual((hall.kept(), hall.computed), (["a"], 3))
        hall.word_of("b")
        hall.word_of("a")
        self.assertEqual((hall.kept(), hall.computed), (["a", "b"], 4))
        hall.redo()
        self.assertEqual(hall.kept(), ["a"])
        hall.redo()
        self.assertEqual(hall.kept(), ["a"])

    def test_dropped_and_kept_again_within_one_call(self):
        hall = hall_with(TEXTS[0], TEXTS[1])
        hall.word_of("a")
        hall.word_of("b")
        hall.apply(("drop", "a"), ("keep", "a", TEXTS[0]))
        self.assertEqual((hall.kept(), hall.computed), (["a", "b"], 2))
        hall.apply(("change", "a", ("seek", 1)), ("change", "a", ("seek", 0)))
        self.assertEqual((hall.kept(), hall.history()), (["a", "b"], (4, 0)))
        hall.apply(("change", "a", ("seek", 0)))
        self.assertEqual(hall.kept(), ["a", "b"])
        hall.apply(("drop", "a"), ("keep", "a", TEXTS[1]))
        self.assertEqual(hall.kept(), ["b"])
        hall.undo()
        self.assertEqual(hall.kept(), ["b"])
        hall.apply(("drop", "b"))
        hall.apply(("keep", "b", TEXTS[1]))
        self.assertEqual((hall.kept(), hall.computed), ([], 2))
        self.assertEqual((hall.word_of("b"), hall.computed), ("safe", 3))

    def test_changed_and_changed_back_by_two_calls(self):
        hall = hall_with(TEXTS[0])
        hall.word_of("a")
        hall.apply(("change", "a", ("seek", 1)))
        hall.undo()
        self.assertEqual((hall.kept(), hall.computed), ([], 1))
        hall.word_of("a")
        self.assertEqual((hall.kept(), hall.computed), (["a"], 2))

    def test_plants_that_take_each_others_names(self):
        hall = hall_with(TEXTS[0], TEXTS[1])
        hall.word_of("a")
        hall.apply(("drop", "a"), ("drop", "b"), ("keep", "b", TEXTS[0]), ("keep", "a", TEXTS[1]))
        self.assertEqual(hall.kept(), [])
        self.assertEqual((hall.word_of("a"), hall.word_of("b")), ("safe", "astray"))

    def test_plant_with_too_many_places(self):
        hall = hall_with(LARGE, TEXTS[0])
        hall.word_of("b")
        before = told(hall)
        assert_refused(self, TooMany, 5000, hall.word_of, "a")
        self.assertEqual(told(hall), before)


class Limits(unittest.TestCase):

    def test_wrong_limits(self):
        for value in wrong_numbers(1, 12) + drawn_values(263, 60):
            if shown(value) not in [shown(number) for number in range(1, 13)]:
                with self.assertRaises(InvalidLimit) as caught:
                    Hall(limit=value)
                self.assertEqual(shown(caught.exception.given), shown(value))
                hall = hall_with(TEXTS[0])
                before = told(hall)
                assert_refused(self, InvalidLimit, value, hall.set_limit, value)
                assert_refused(self, InvalidLimit, value, setattr, hall, "limit", value)
                self.assertEqual(told(hall), before)

    def test_bounds(self):
        self.assertEqual((Hall.MOST, Hall().limit, Hall().MOST), (12, 6, 12))
        self.assertRaises(TypeError, Hall, 6)
        for limit in range(1, 13):
            hall = Hall(limit=limit)
            self.assertEqual(hall.limit, limit)
            for many in range(limit):
                hall.apply(("keep", "abcdefghijkl"[many], TEXTS[many % 6]))
            before = told(hall)
            assert_refused(self, Full, limit, hall.apply, ("keep", "x", TEXTS[0]))
            assert_refused(self, Full, limit, hall.apply, ("change", "a", ("seek", 3)), ("keep", "x", "no text"))
            self.assertEqual(told(hall), before)
            assert_refused(self, InvalidLimit, limit - 1, hall.set_limit, limit - 1)
            hall.limit = limit
            self.assertEqual(told(hall), before)

    def test_limit_that_is_assigned(self):
        hall = hall_with(*TEXTS[:3])
        for value in (12, 3, 4):
            hall.limit = value
            self.assertEqual(hall.limit, value)
        for value in (2, 1, 0, 13, True):
            assert_refused(self, InvalidLimit, value, setattr, hall, "limit", value)
        self.assertEqual(hall.limit, 4)
        self.assertIsNone(hall.set_limit(value=5))
        self.assertEqual(hall.limit, 5)


class TwinsAndEquality(unittest.TestCase):

    def test_twin_has_all(self):
        hall = hall_with(*TEXTS[:3], limit=7)
        hall.word_of("b")
        hall.undo()
        twin = hall.twin()
        self.assertIs(type(twin), Hall)
        self.assertEqual(told(twin), told(hall))
        self.assertTrue(twin == hall)
        twin.redo()
        self.assertEqual((twin.names(), hall.names()), (["a", "b", "c"], ["a", "b"]))
        twin.word_of("a")
        twin.set_limit(12)
        self.assertEqual((hall.kept(), hall.computed, hall.limit, hall.history()), (["b"], 1, 7, (2, 1)))
        hall.undo()
        hall.undo()
        self.assertEqual((twin.names(), twin.history()), (["a", "b", "c"], (3, 0)))
        self.assertEqual((twin.kept(), twin.computed), (["a", "b"], 2))

    def test_twin_above_its_limit(self):
        hall = hall_with(*TEXTS[:3])
        hall.apply(("drop", "a"), ("drop", "b"))
        hall.set_limit(1)
        hall.undo()
        self.assertEqual(told(hall.twin()), told(hall))

    def test_equality(self):
        halls = [Hall(), hall_with(TEXTS[0]), hall_with(TEXTS[1]), hall_with(TEXTS[0], TEXTS[1]),
                 hall_with(TEXTS[1], TEXTS[0])]
        for one, other in itertools.product(range(5), repeat=2):
            self.assertIs(halls[one] == halls[other], one == other)
        other = Hall(limit=12)
        other.apply(("keep", "b", TEXTS[1]), ("keep", "x", TEXTS[1]))
        other.apply(("keep", "a", TEXTS[0]), ("drop", "x"))
        other.word_of("a")
        self.assertTrue(other == halls[3])
        self.assertFalse(other != halls[3])

    def test_equal_to_no_value_of_another_class(self):
        hall = hall_with(TEXTS[0])
        plant = hall.plant_of("a")
        for value in ANY_VALUES + (plant, Run(plant), {"a": plant}, ["a"], TEXTS[0]):
            self.assertFalse(hall == value)
            self.assertFalse(value == hall)
            self.assertTrue(hall != value)

    def test_lists_are_new(self):
        hall = hall_with(*TEXTS[:2])
        hall.word_of("a")
        hall.names().clear()
        hall.kept().append("b")
        self.assertEqual((hall.names(), hall.kept()), (["a", "b"], ["a"]))
        self.assertIs(type(hall.names()), list)
        self.assertIs(type(hall.kept()), list)

    def test_members_are_defined_in_the_class(self):
        for name in ("__init__", "set_limit", "apply", "undo", "redo", "history", "names", "plant_of", "word_of", "kept",
                     "twin", "__contains__", "__eq__", "__len__", "__repr__", "MOST"):
            self.assertIn(name, vars(Hall))
        for name in ("limit", "busy", "computed"):
            self.assertIsInstance(vars(Hall)[name], property)
        self.assertIsNotNone(vars(Hall)["limit"].fset)
        self.assertEqual(Hall.__module__, "ownchute.halls")


if __name__ == "__main__":
    unittest.main()
