"""Promises 2 to 4: lines, wrong values of lines, and changed lines."""

import copy
import itertools
import random
import unittest

from ownchute.errors import InvalidField, InvalidNumber, InvalidPoint, InvalidWord, WrongCount
from ownchute.lines import Line
from ownchute.trackers import Tracker
from tests.drawn import ANY_VALUES, assert_refused, drawn_values, shown, subsets, without, wrong_numbers

SLIP_WORDS = ("missed", "twice", "swapped")
ALL_SLIPS = [(most, among) for most in range(4) for among in range(1, 7)]
ALL_STRETCHES = [None] + list(range(1, 13))
ROOMS = [rooms for many in (1, 2, 3) for rooms in itertools.product((1, 2, 3), repeat=many)]
FIELDS = ("belts", "scans", "slips", "words", "stretch")


def between(rooms):
    return range(1, len(rooms))


def fields_of(line):
    return {"belts": line.belts(), "scans": line.scans(), "slips": line.slips, "words": line.words(),
            "stretch": line.stretch}


def made(fields):
    named = {name: fields[name] for name in fields if name != "belts"}
    return Line(*fields["belts"], **named)


def drawn_fields(source, many):
    """Return the fields of a drawn line with so many belts."""
    return {
        "belts": [source.randint(1, 3) for _ in range(many)],
        "scans": list(source.choice(subsets(range(1, many)))),
        "slips": source.choice(ALL_SLIPS),
        "words": list(source.choice(subsets(SLIP_WORDS))),
        "stretch": source.choice(ALL_STRETCHES),
    }


class Lines(unittest.TestCase):

    def check(self, line, fields):
        self.assertIs(type(line), Line)
        self.assertEqual(shown(fields_of(line)), shown(fields))
        self.assertEqual(shown(line.last), shown(len(fields["belts"])))
        self.assertEqual(len(line), len(fields["belts"]))
        self.assertEqual(repr(line), f"Line({len(fields['belts'])} belts)")

    def test_defaults(self):
        for rooms in ROOMS:
            fields = {"belts": list(rooms), "scans": [], "slips": (1, 4),
                      "words": ["missed", "twice", "swapped"], "stretch": None}
            self.check(Line(*rooms), fields)
            self.assertEqual(Line(*rooms), made(fields))

    def test_most(self):
        self.assertEqual(shown(Line.MOST), "3")
        self.assertEqual(shown(Line(1).MOST), "3")

    def test_repr_of_one_belt_has_the_same_word(self):
        self.assertEqual(repr(Line(3)), "Line(1 belts)")
        self.assertEqual(repr(Line(3, 1)), "Line(2 belts)")
        self.assertEqual(repr(Line(1, 1, 1)), "Line(3 belts)")

    def test_scans_are_ascending_whatever_their_order(self):
        for rooms in ROOMS:
            for scans in subsets(between(rooms)):
                for order in itertools.permutations(scans):
                    for given in (order, list(order)):
                        self.assertEqual(shown(Line(*rooms, scans=given).scans()), shown(list(scans)))

    def test_is_scanner(self):
        for rooms in ROOMS:
            for scans in subsets(between(rooms)):
                line = Line(*rooms, scans=scans[::-1])
                for point in range(len(rooms) + 1):
                    self.assertIs(line.is_scanner(point), point == 0 or point in scans)
                    self.assertIs(line.is_scanner(point=point), point == 0 or point in scans)

    def test_is_scanner_of_no_point(self):
        for line in (Line(1), Line(2, 2, scans=[1]), Line(3, 1, 2, scans=[2, 1])):
            before = fields_of(line)
            for value in wrong_numbers(0, len(line)) + drawn_values(1, 50):
                if isinstance(value, bool) or not isinstance(value, int) or not 0 <= value <= len(line):
                    assert_refused(self, InvalidPoint, value, line.is_scanner, value)
            self.check(line, before)

    def test_slips(self):
        for slips in ALL_SLIPS:
            self.assertEqual(shown(Line(2, 3, slips=slips).slips), shown(slips))

    def test_words(self):
        for words in subsets(SLIP_WORDS):
            for given in (words, list(words)):
                self.assertEqual(shown(Line(2, words=given).words()), shown(list(words)))

    def test_stretch(self):
        for stretch in ALL_STRETCHES:
            self.assertEqual(shown(Line(2, stretch=stretch).stretch), shown(stretch))

    def test_drawn_lines(self):
        source = random.Random(2)
        for turn in range(300):
            fields = drawn_fields(source, 1 + turn % 3)
            line = made({**fields, "scans": source.sample(fields["scans"], len(fields["scans"]))})
            self.check(line, fields)
            self.assertTrue(line == made(fields))
            self.assertFalse(line != made(fields))

    def test_tuples_stand_for_lists(self):
        self.assertEqual(Line(1, 2, 3, scans=(2, 1), words=("twice",)),
                         Line(1, 2, 3, scans=[2, 1], words=["twice"]))

    def test_lists_that_are_passed_are_copied(self):
        belts, scans, words = [1, 2, 3], [2, 1], ["missed", "swapped"]
        line = Line(*belts, scans=scans, words=words)
        changed = Line(1).changed(belts=belts, scans=scans, words=words)
        self.assertEqual((belts, scans, words), ([1, 2, 3], [2, 1], ["missed", "swapped"]))
        belts.append(9)
        scans[0] = 7
        words.clear()
        for one in (line, changed):
            self.assertEqual(one.belts(), [1, 2, 3])
            self.assertEqual(one.scans(), [1, 2])
            self.assertEqual(one.words(), ["missed", "swapped"])
            self.assertTrue(one.is_scanner(2))

    def test_lists_that_are_returned_are_new(self):
        line = Line(1, 2, 3, scans=[1, 2])
        before = fields_of(line)
        for method in (line.belts, line.scans, line.words):
            self.assertIs(type(method()), list)
            method().clear()
            method().append("other")
            method()[0] = 0
        self.check(line, before)
        self.assertTrue(line.is_scanner(1))

    def test_members_are_defined_in_the_class(self):
        for name in ("belts", "scans", "words", "is_scanner", "changed", "MOST",
                     "__init__", "__eq__", "__len__", "__repr__"):
            self.assertIn(name, vars(Line))
        for name in ("slips", "stretch", "last"):
            self.assertIsInstance(vars(Line)[name], property)
        self.assertEqual(Line.__module__, "ownchute.lines")

    def test_equal_to_no_value_of_another_class(self):
        line = Line(2, 3)
        for value in ANY_VALUES + (Tracker(2, 3), [2, 3], (2, 3), "Line(2 belts)", fields_of(line)):
            self.assertFalse(line == value)
            self.assertFalse(value == line)
            self.assertTrue(line != value)


class WrongLines(unittest.TestCase):

    def test_wrong_count(self):
        assert_refused(self, WrongCount, 0, Line)
        for many in (4, 5, 6, 300):
            assert_refused(self, WrongCount, many, Line, *[1] * many)
            assert_refused(self, WrongCount, many, Line, *["a"] * many)

    def test_wrong_room(self):
        for rooms in ROOMS:
            for at in range(len(rooms)):
                for value in wrong_numbers(1, 3):
                    given = list(rooms)
                    given[at] = value
                    assert_refused(self, InvalidNumber, value, Line, *given)

    def test_first_wrong_room_counts(self):
        assert_refused(self, InvalidNumber, True, Line, 1, True, 0)
        assert_refused(self, InvalidNumber, 4, Line, 4, "a", None)
        assert_refused(self, InvalidNumber, [2], Line, 3, 3, [2])

    def test_wrong_scan(self):
        for rooms in ((2,), (2, 2), (1, 2, 3)):
            right = list(between(rooms))
            for value in wrong_numbers(1, len(rooms) - 1):
                for before in subsets(right):
                    for after in ([], right, ["a", 9]):
                        scans = list(before) + [value] + after
                        assert_refused(self, InvalidPoint, value, Line, *rooms, scans=scans)
                        assert_refused(self, InvalidPoint, value, Line, *rooms, scans=tuple(scans))

    def test_end_points_are_not_between_belts(self):
        for rooms in ROOMS:
            for value in (0, len(rooms), len(rooms) + 1, -1):
                assert_refused(self, InvalidPoint, value, Line, *rooms, scans=[value])

    def test_scan_that_occurs_earlier(self):
        assert_refused(self, InvalidPoint, 1, Line, 2, 2, scans=[1, 1])
        assert_refused(self, InvalidPoint, 2, Line, 2, 2, 2, scans=[2, 1, 2])
        assert_refused(self, InvalidPoint, 1, Line, 2, 2, 2, scans=(2, 1, 1, 2, 0))
        assert_refused(self, InvalidPoint, True, Line, 2, 2, scans=[1, True])

    def test_wrong_slips(self):
        for value in without(ALL_SLIPS):
            assert_refused(self, InvalidNumber, value, Line, 2, slips=value)
        for value in wrong_numbers(0, 3):
            for among in (1, 4, 6):
                assert_refused(self, InvalidNumber, (value, among), Line, 2, slips=(value, among))
        for value in wrong_numbers(1, 6):
            for most in (0, 1, 3):
                assert_refused(self, InvalidNumber, (most, value), Line, 2, slips=(most, value))

    def test_slips_are_a_tuple_of_two(self):
        for slips in ALL_SLIPS:
            assert_refused(self, InvalidNumber, list(slips), Line, 2, slips=list(slips))
            assert_refused(self, InvalidNumber, slips[:1], Line, 2, slips=slips[:1])
            assert_refused(self, InvalidNumber, slips + (1,), Line, 2, slips=slips + (1,))
            assert_refused(self, InvalidNumber, (slips,), Line, 2, slips=(slips,))

    def test_wrong_word(self):
        for value in without(SLIP_WORDS):
            for before in subsets(SLIP_WORDS):
                for after in ([], ["swapped"], [7, "missed"]):
                    words = list(before) + [value] + after
                    assert_refused(self, InvalidWord, value, Line, 2, words=words)
                    assert_refused(self, InvalidWord, value, Line, 2, words=tuple(words))

    def test_words_in_another_order(self):
        for many in (2, 3, 4):
            for words in itertools.product(SLIP_WORDS, repeat=many):
                places = [SLIP_WORDS.index(word) for word in words]
                late = [at for at in range(1, many) if places[at] <= max(places[:at])]
                if late:
                    assert_refused(self, InvalidWord, words[late[0]], Line, 2, words=list(words))
                else:
                    self.assertEqual(Line(2, words=list(words)).words(), list(words))

    def test_wrong_stretch(self):
        for value in wrong_numbers(1, 12):
            if value is not None:
                assert_refused(self, InvalidNumber, value, Line, 2, stretch=value)

    def test_drawn_values_are_wrong_everywhere(self):
        for value in drawn_values(3, 200):
            if isinstance(value, bool) or not isinstance(value, (int, str, type(None))) or value in ("", "none"):
                assert_refused(self, InvalidNumber, value, Line, value)
                assert_refused(self, InvalidPoint, value, Line, 1, 1, scans=[value])
                assert_refused(self, InvalidWord, value, Line, 1, words=[value])
                assert_refused(self, InvalidNumber, value, Line, 1, stretch=value)

    def test_order_of_errors(self):
        right = {"belts": [2, 3], "scans": [1], "slips": (2, 5), "words": ["twice"], "stretch": 4}
        wrong = wrong_parts()
        for parts in subsets(FIELDS)[1:]:
            for turn in range(3):
                fields = {**right, **{name: wrong[name][turn][0] for name in parts}}
                before = copy.deepcopy(fields)
                _, error, value = wrong[parts[0]][turn]
                assert_refused(self, error, value, made, fields)
                assert_refused(self, error, value, Line(1, 2, 3, scans=[2]).changed, **fields)
                self.assertEqual(shown(fields), shown(before))

    def test_order_does_not_follow_the_keywords(self):
        wrong = {name: rows[0] for name, rows in wrong_parts().items()}
        line = Line(2, 3)
        for one, other in itertools.combinations(FIELDS, 2):
            fields = {other: wrong[other][0], one: wrong[one][0]}
            assert_refused(self, wrong[one][1], wrong[one][2], line.changed, **fields)


def wrong_parts():
    """Return for each field three wrong values, each with its error and the value that this carries."""
    return {
        "belts": [([2, 4, "a"], InvalidNumber, 4), ([], WrongCount, 0), ([0, 1, 1, 1], WrongCount, 4)],
        "scans": [([1, 2, 9], InvalidPoint, 2), ([1, 1, 0], InvalidPoint, 1), ([True], InvalidPoint, True)],
        "slips": [([1, 4], InvalidNumber, [1, 4]), ((4, 0), InvalidNumber, (4, 0)), (None, InvalidNumber, None)],
        "words": [(["twice", "missed"], InvalidWord, "missed"), ([[], 1], InvalidWord, []),
                  (["missed", "once", "none"], InvalidWord, "once")],
        "stretch": [(0, InvalidNumber, 0), (13, InvalidNumber, 13), ([None], InvalidNumber, [None])],
    }


class ChangedLines(unittest.TestCase):

    def check(self, line, fields):
        self.assertIs(type(line), Line)
        self.assertEqual(shown(fields_of(line)), shown(fields))
        self.assertTrue(line == made(fields))

    def test_none(self):
        for rooms in ROOMS:
            line = Line(*rooms, scans=list(between(rooms)), slips=(0, 1), words=["twice"], stretch=12)
            self.assertTrue(line.changed() == line)
            self.check(line.changed(), fields_of(line))

    def test_some_fields_of_another_line(self):
        source = random.Random(4)
        for turn in range(60):
            many = 1 + turn % 3
            old, new = drawn_fields(source, many), drawn_fields(source, many)
            line = made(old)
            for names in subsets(FIELDS):
                for order in (names, names[::-1]):
                    self.check(line.changed(**{name: new[name] for name in order}),
                               {**old, **{name: new[name] for name in names}})
            self.check(line, old)

    def test_each_value_of_a_field(self):
        line = Line(1, 2, 3, scans=[1], slips=(2, 5), words=["twice"], stretch=4)
        old = fields_of(line)
        news = [("belts", list(rooms)) for rooms in ROOMS if len(rooms) >= 2]
        news += [("scans", list(scans)) for scans in subsets((1, 2))]
        news += [("slips", slips) for slips in ALL_SLIPS]
        news += [("words", list(words)) for words in subsets(SLIP_WORDS)]
        news += [("stretch", stretch) for stretch in ALL_STRETCHES]
        for name, value in news:
            self.check(line.changed(**{name: value}), {**old, name: value})
        self.check(line, old)

    def test_all_of_them_and_tuples(self):
        line = Line(1)
        new = {"belts": (3, 2), "scans": (1,), "slips": (3, 6), "words": ("swapped",), "stretch": 1}
        self.check(line.changed(**new), {"belts": [3, 2], "scans": [1], "slips": (3, 6), "words": ["swapped"],
                                         "stretch": 1})
        self.check(line.changed(belts=[1, 1, 1], scans=[2, 1]), {**fields_of(Line(1, 1, 1)), "scans": [1, 2]})

    def test_another_number_of_belts(self):
        line = Line(1, 2, 3, scans=[2, 1])
        self.assertEqual(Line(2).changed(belts=[1, 2, 3]), Line(1, 2, 3))
        assert_refused(self, InvalidPoint, 2, line.changed, belts=[1, 2])
        assert_refused(self, InvalidPoint, 1, line.changed, belts=[1])
        self.assertEqual(line.changed(belts=[3], scans=[]), Line(3))

    def test_lines_that_differ_in_one_value(self):
        source = random.Random(5)
        for turn in range(120):
            fields = drawn_fields(source, 1 + turn % 3)
            line = made(fields)
            for name in FIELDS:
                other = drawn_fields(source, len(line))[name]
                equal = shown(other) == shown(fields[name])
                for one in (made({**fields, name: other}), line.changed(**{name: other})):
                    self.assertIs(line == one, equal)
                    self.assertIs(one == line, equal)
                    self.assertIs(line != one, not equal)

    def test_lines_with_other_belts_differ(self):
        for one, other in itertools.product(ROOMS, repeat=2):
            self.assertIs(Line(*one) == Line(*other), one == other)

    def test_invalid_field(self):
        line = Line(2, 3, scans=[1])
        for name in ("rooms", "last", "MOST", "belt", "Belts", "scan", "", "a b", "slip", "word", "seek", "pause"):
            assert_refused(self, InvalidField, name, line.changed, **{name: 1})
            assert_refused(self, InvalidField, name, line.changed, **{"belts": [2, 2], name: [1]})
        assert_refused(self, InvalidField, "second", line.changed, stretch=3, second=1, first=2)
        self.check(line, fields_of(Line(2, 3, scans=[1])))

    def test_invalid_field_ahead_of_wrong_values(self):
        line = Line(2, 3, scans=[1])
        for name, rows in wrong_parts().items():
            for value, _, _ in rows:
                assert_refused(self, InvalidField, "other", line.changed, **{name: value, "other": 1})
                assert_refused(self, InvalidField, "other", line.changed, **{"other": 1, name: value, "more": 2})

    def test_errors_as_of_line(self):
        line = Line(2, 3, scans=[1], slips=(2, 5), words=["twice"], stretch=4)
        before = fields_of(line)
        for name, rows in wrong_parts().items():
            for value, error, carried in rows:
                assert_refused(self, error, carried, line.changed, **{name: value})
        for value in wrong_numbers(1, 3):
            assert_refused(self, InvalidNumber, value, line.changed, belts=[1, value])
        for value in wrong_numbers(1, 12):
            if value is not None:
                assert_refused(self, InvalidNumber, value, line.changed, stretch=value)
        for value in without(ALL_SLIPS):
            assert_refused(self, InvalidNumber, value, line.changed, slips=value)
        for value in wrong_numbers(1, 1):
            assert_refused(self, InvalidPoint, value, line.changed, scans=[1, value])
        for value in without(SLIP_WORDS):
            assert_refused(self, InvalidWord, value, line.changed, words=["missed", value])
        self.check(line, before)


if __name__ == "__main__":
    unittest.main()
