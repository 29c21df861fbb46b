"""Promises 5 and 6: trackers, changed trackers, and wrong values of trackers."""

import copy
import itertools
import random
import unittest

from ownchute.errors import InvalidField, InvalidNumber, InvalidWord, WrongCount
from ownchute.lines import Line
from ownchute.trackers import Tracker
from tests.drawn import ANY_VALUES, assert_refused, drawn_values, shown, subsets, without, wrong_numbers

WORDS = {"empty": ("blank", "none"), "strange": ("first", "none"), "pause": ("clear", "keep")}
ROOMS = [rooms for many in (1, 2, 3) for rooms in itertools.product((1, 2, 3, 4), repeat=many)]
RULES = [{"seek": seek, "empty": empty, "strange": strange, "pause": pause}
         for seek in range(4) for empty in WORDS["empty"] for strange in WORDS["strange"]
         for pause in WORDS["pause"]]
FIELDS = ("rooms", "seek", "empty", "strange", "pause")


def fields_of(tracker):
    return {"rooms": tracker.rooms(), "seek": tracker.seek, "empty": tracker.empty, "strange": tracker.strange,
            "pause": tracker.pause}


def made(fields):
    named = {name: fields[name] for name in fields if name != "rooms"}
    return Tracker(*fields["rooms"], **named)


def drawn_fields(source, many):
    """Return the fields of a drawn tracker with so many rooms."""
    return {"rooms": [source.randint(1, 4) for _ in range(many)], **source.choice(RULES)}


def wrong_parts():
    """Return for each field three wrong values, each with its error and the value that this carries."""
    return {
        "rooms": [([4, 5, "a"], InvalidNumber, 5), ([], WrongCount, 0), ([0, 1, 1, 1], WrongCount, 4)],
        "seek": [(4, InvalidNumber, 4), (-1, InvalidNumber, -1), (False, InvalidNumber, False)],
        "empty": [("first", InvalidWord, "first"), (["none"], InvalidWord, ["none"]), (None, InvalidWord, None)],
        "strange": [("blank", InvalidWord, "blank"), (("first",), InvalidWord, ("first",)), (0, InvalidWord, 0)],
        "pause": [("none", InvalidWord, "none"), ("", InvalidWord, ""), ([], InvalidWord, [])],
    }


class Trackers(unittest.TestCase):

    def check(self, tracker, fields):
        self.assertIs(type(tracker), Tracker)
        self.assertEqual(shown(fields_of(tracker)), shown(fields))
        self.assertEqual(len(tracker), len(fields["rooms"]))
        self.assertEqual(repr(tracker), f"Tracker({len(fields['rooms'])} rooms)")

    def test_defaults(self):
        for rooms in ROOMS:
            fields = {"rooms": list(rooms), "seek": 0, "empty": "none", "strange": "first", "pause": "clear"}
            self.check(Tracker(*rooms), fields)
            self.assertEqual(Tracker(*rooms), made(fields))

    def test_most(self):
        self.assertEqual(shown(Tracker.MOST), "4")
        self.assertEqual(shown(Tracker(1).MOST), "4")

    def test_repr_of_one_room_has_the_same_word(self):
        self.assertEqual(repr(Tracker(4)), "Tracker(1 rooms)")
        self.assertEqual(repr(Tracker(3, 1)), "Tracker(2 rooms)")
        self.assertEqual(repr(Tracker(1, 1, 1)), "Tracker(3 rooms)")

    def test_each_rule_alone(self):
        for name, words in {**WORDS, "seek": range(4)}.items():
            for value in words:
                self.check(Tracker(2, 3, **{name: value}), {**fields_of(Tracker(2, 3)), name: value})

    def test_all_rooms_and_rules(self):
        for rooms in ROOMS:
            for rules in RULES:
                fields = {"rooms": list(rooms), **rules}
                self.check(made(fields), fields)
                self.assertTrue(made(fields) == made(fields))
                self.assertFalse(made(fields) != made(fields))

    def test_lists_that_are_passed_are_copied(self):
        rooms = [1, 4, 2]
        one, other = Tracker(*rooms), Tracker(1).changed(rooms=rooms)
        rooms[0] = 9
        rooms.append(1)
        self.assertEqual(one.rooms(), [1, 4, 2])
        self.assertEqual(other.rooms(), [1, 4, 2])

    def test_lists_that_are_returned_are_new(self):
        tracker = Tracker(1, 4, 2)
        self.assertIs(type(tracker.rooms()), list)
        tracker.rooms().clear()
        tracker.rooms()[1] = 0
        tracker.rooms().append(1)
        self.check(tracker, fields_of(Tracker(1, 4, 2)))

    def test_members_are_defined_in_the_class(self):
        for name in ("rooms", "changed", "MOST", "__init__", "__eq__", "__len__", "__repr__"):
            self.assertIn(name, vars(Tracker))
        for name in ("seek", "empty", "strange", "pause"):
            self.assertIsInstance(vars(Tracker)[name], property)
        self.assertEqual(Tracker.__module__, "ownchute.trackers")

    def test_equal_to_no_value_of_another_class(self):
        tracker = Tracker(2, 3)
        for value in ANY_VALUES + (Line(2, 3), [2, 3], (2, 3), "Tracker(2 rooms)", fields_of(tracker)):
            self.assertFalse(tracker == value)
            self.assertFalse(value == tracker)
            self.assertTrue(tracker != value)


class ChangedTrackers(unittest.TestCase):

    def check(self, tracker, fields):
        self.assertIs(type(tracker), Tracker)
        self.assertEqual(shown(fields_of(tracker)), shown(fields))
        self.assertTrue(tracker == made(fields))

    def test_none(self):
        for rules in RULES:
            tracker = Tracker(2, 4, **rules)
            self.assertTrue(tracker.changed() == tracker)
            self.check(tracker.changed(), {"rooms": [2, 4], **rules})

    def test_some_fields_of_another_tracker(self):
        source = random.Random(6)
        for _ in range(90):
            old = drawn_fields(source, source.randint(1, 3))
            new = drawn_fields(source, source.randint(1, 3))
            tracker = made(old)
            for names in subsets(FIELDS):
                for order in (names, names[::-1]):
                    self.check(tracker.changed(**{name: new[name] for name in order}),
                               {**old, **{name: new[name] for name in names}})
            self.check(tracker, old)

    def test_rooms_as_a_tuple(self):
        self.assertEqual(Tracker(1, seek=2).changed(rooms=(4, 3)), Tracker(4, 3, seek=2))

    def test_trackers_that_differ_in_one_value(self):
        source = random.Random(7)
        for turn in range(150):
            fields = drawn_fields(source, 1 + turn % 3)
            tracker = made(fields)
            for name in FIELDS:
                other = drawn_fields(source, len(tracker))[name]
                equal = other == fields[name]
                for one in (made({**fields, name: other}), tracker.changed(**{name: other})):
                    self.assertIs(tracker == one, equal)
                    self.assertIs(one == tracker, equal)
                    self.assertIs(tracker != one, not equal)

    def test_trackers_with_other_rooms_differ(self):
        for one, other in itertools.product(ROOMS, repeat=2):
            self.assertIs(Tracker(*one) == Tracker(*other), one == other)

    def test_invalid_field(self):
        tracker = Tracker(2, 3, seek=1)
        for name in ("belts", "last", "MOST", "room", "Seek", "", "a b", "scans", "slips", "words", "stretch"):
            assert_refused(self, InvalidField, name, tracker.changed, **{name: 1})
            assert_refused(self, InvalidField, name, tracker.changed, **{"rooms": [2, 2], name: [1]})
        assert_refused(self, InvalidField, "second", tracker.changed, seek=3, second=1, first=2)
        self.check(tracker, fields_of(Tracker(2, 3, seek=1)))

    def test_invalid_field_ahead_of_wrong_values(self):
        tracker = Tracker(2, 3)
        for name, rows in wrong_parts().items():
            for value, _, _ in rows:
                assert_refused(self, InvalidField, "other", tracker.changed, **{name: value, "other": 1})
                assert_refused(self, InvalidField, "other", tracker.changed, **{"other": 1, name: value, "more": 2})


class WrongTrackers(unittest.TestCase):

    def test_wrong_count(self):
        assert_refused(self, WrongCount, 0, Tracker)
        for many in (4, 5, 6, 300):
            assert_refused(self, WrongCount, many, Tracker, *[1] * many)
            assert_refused(self, WrongCount, many, Tracker, *["a"] * many)
            assert_refused(self, WrongCount, many, Tracker(1).changed, rooms=[1] * many)

    def test_wrong_room(self):
        for many in (1, 2, 3):
            for at in range(many):
                for value in wrong_numbers(1, 4):
                    rooms = [4] * many
                    rooms[at] = value
                    assert_refused(self, InvalidNumber, value, Tracker, *rooms)
                    assert_refused(self, InvalidNumber, value, Tracker(1, 1).changed, rooms=rooms)

    def test_first_wrong_room_counts(self):
        assert_refused(self, InvalidNumber, True, Tracker, 4, True, 0)
        assert_refused(self, InvalidNumber, 5, Tracker, 5, "a", None)
        assert_refused(self, InvalidNumber, [2], Tracker, 3, 3, [2])

    def test_wrong_seek(self):
        for value in wrong_numbers(0, 3):
            assert_refused(self, InvalidNumber, value, Tracker, 2, seek=value)
            assert_refused(self, InvalidNumber, value, Tracker(2).changed, seek=value)

    def test_wrong_words_of_the_rules(self):
        for name, words in WORDS.items():
            for value in without(words):
                assert_refused(self, InvalidWord, value, Tracker, 2, **{name: value})
                assert_refused(self, InvalidWord, value, Tracker(2).changed, **{name: value})

    def test_drawn_values_are_wrong_everywhere(self):
        for value in drawn_values(8, 200):
            if isinstance(value, bool) or not isinstance(value, (int, str)):
                assert_refused(self, InvalidNumber, value, Tracker, value)
                assert_refused(self, InvalidNumber, value, Tracker, 1, seek=value)
                for name in WORDS:
                    assert_refused(self, InvalidWord, value, Tracker, 1, **{name: value})

    def test_order_of_errors(self):
        right = {"rooms": [2, 3], "seek": 1, "empty": "blank", "strange": "none", "pause": "keep"}
        wrong = wrong_parts()
        tracker = Tracker(1, 2, 3, seek=2)
        for parts in subsets(FIELDS)[1:]:
            for turn in range(3):
                fields = {**right, **{name: wrong[name][turn][0] for name in parts}}
                before = copy.deepcopy(fields)
                _, error, value = wrong[parts[0]][turn]
                assert_refused(self, error, value, made, fields)
                assert_refused(self, error, value, tracker.changed, **fields)
                self.assertEqual(shown(fields), shown(before))
        self.assertEqual(tracker, Tracker(1, 2, 3, seek=2))

    def test_order_does_not_follow_the_keywords(self):
        wrong = {name: rows[0] for name, rows in wrong_parts().items()}
        tracker = Tracker(2, 3)
        for one, other in itertools.combinations(FIELDS, 2):
            fields = {other: wrong[other][0], one: wrong[one][0]}
            assert_refused(self, wrong[one][1], wrong[one][2], tracker.changed, **fields)


if __name__ == "__main__":
    unittest.main()
