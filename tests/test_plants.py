"""Promises 7 and 8: plants and their texts; with_offers."""

import copy
import itertools
import random
import re
import unittest

from ownchute.errors import InvalidOffer, InvalidText, WrongCount
from ownchute.lines import Line
from ownchute.plants import Plant
from ownchute.runs import Run
from ownchute.trackers import Tracker
from tests.drawn import (ANY_VALUES, assert_refused, drawn_line, drawn_plant, drawn_plants, drawn_tracker,
                         drawn_values, shown, without)

EXAMPLE = "belts 2 3 scans 1 slips 1 4 missed swapped stretch 6 rooms 3 4 seek 1 none first clear"
LITERALS = {
    EXAMPLE: (Line(2, 3, scans=[1], slips=(1, 4), words=["missed", "swapped"], stretch=6), Tracker(3, 4, seek=1)),
    "belts 1 slips 1 4 missed twice swapped rooms 1 seek 0 none first clear": (Line(1), Tracker(1)),
    "belts 3 slips 0 1 stretch 12 rooms 4 seek 3 blank none keep": (
        Line(3, slips=(0, 1), words=(), stretch=12),
        Tracker(4, seek=3, empty="blank", strange="none", pause="keep")),
    "belts 3 2 1 scans 1 2 slips 3 6 twice stretch 1 rooms 4 2 3 seek 2 blank first keep": (
        Line(3, 2, 1, scans=(2, 1), slips=(3, 6), words=("twice",), stretch=1),
        Tracker(4, 2, 3, seek=2, empty="blank", pause="keep")),
    "belts 1 1 1 scans 2 slips 1 4 rooms 1 1 1 seek 0 none none clear": (
        Line(1, 1, 1, scans=[2], words=[]), Tracker(1, 1, 1, strange="none")),
}
FORM = re.compile("belts((?: [1-3]){1,3})( scans(?: [12]){1,2})? slips ([0-3]) ([1-6])((?: missed)?(?: twice)?"
                  "(?: swapped)?)(?: stretch ([1-9]|1[0-2]))? rooms((?: [1-4]){1,3}) seek ([0-3]) (blank|none)"
                  " (first|none) (clear|keep)")
VOCABULARY = ("belts", "scans", "slips", "stretch", "rooms", "seek", "missed", "twice", "swapped", "once", "blank",
              "none", "first", "clear", "keep", "0", "1", "2", "3", "4", "5", "6", "7", "12", "13", "01", "1.0", "-1",
              "+1", "one", "True", "None", "", "belt", "Belts")


def fields_of(plant):
    line, tracker = plant.line, plant.tracker
    return {"belts": line.belts(), "scans": line.scans(), "slips": line.slips, "words": line.words(),
            "stretch": line.stretch, "rooms": tracker.rooms(), "seek": tracker.seek, "empty": tracker.empty,
            "strange": tracker.strange, "pause": tracker.pause}


def fields_of_text(text):
    """Return the fields that a text tells of, by a form of the whole text; None if it is the text of no plant."""
    match = FORM.fullmatch(text)
    if match is None:
        return None
    belts, rooms = [[int(digit) for digit in match[group].split()] for group in (1, 7)]
    scans = [int(digit) for digit in (match[2] or " scans").split()[1:]]
    if len(belts) != len(rooms) or scans != sorted(set(scans) & set(range(1, len(belts)))):
        return None
    return {"belts": belts, "scans": scans, "slips": (int(match[3]), int(match[4])), "words": match[5].split(),
            "stretch": int(match[6]) if match[6] else None, "rooms": rooms, "seek": int(match[8]),
            "empty": match[9], "strange": match[10], "pause": match[11]}


def plant_of(fields):
    fields = dict(fields)
    belts, rooms = fields.pop("belts"), fields.pop("rooms")
    line = {name: fields[name] for name in ("scans", "slips", "words", "stretch")}
    tracker = {name: fields[name] for name in ("seek", "empty", "strange", "pause")}
    return Plant(Line(*belts, **line), Tracker(*rooms, **tracker))


class Plants(unittest.TestCase):

    def test_literal_texts(self):
        for text, (line, tracker) in LITERALS.items():
            plant = Plant(line, tracker)
            self.assertEqual(shown(plant.text), shown(text))
            self.assertEqual(repr(plant), f"Plant({text})")
            self.assertEqual(Plant.read(text), plant)

    def test_drawn_plants(self):
        source = random.Random(11)
        for turn in range(300):
            line, tracker = drawn_line(source, 1 + turn % 3), drawn_tracker(source, 1 + turn % 3)
            plant = Plant(line, tracker)
            self.assertIs(type(plant), Plant)
            self.assertTrue(plant.line == line and plant.tracker == tracker)
            self.assertEqual(plant, Plant(tracker=tracker, line=line))
            self.assertIs(type(plant.text), str)
            self.assertEqual(shown(fields_of_text(plant.text)), shown(fields_of(plant)))
            self.assertEqual(repr(plant), "Plant(" + plant.text + ")")
            again = Plant.read(plant.text)
            self.assertIs(type(again), Plant)
            self.assertTrue(again == plant and again.line == line and again.tracker == tracker)
            self.assertEqual(again.text, plant.text)
            self.assertEqual(shown(fields_of(again)), shown(fields_of(plant)))
            self.assertEqual(Plant.read(text=plant.text), plant)

    def test_read_off_an_object_too(self):
        self.assertEqual(Plant(Line(1), Tracker(1)).read(EXAMPLE).text, EXAMPLE)

    def test_wrong_count(self):
        for belts, rooms in itertools.product((1, 2, 3), repeat=2):
            line, tracker = Line(*[2] * belts), Tracker(*[3] * rooms)
            if belts == rooms:
                self.assertEqual(len(Plant(line, tracker).line), belts)
            else:
                assert_refused(self, WrongCount, rooms, Plant, line, tracker)

    def test_equality(self):
        source = random.Random(12)
        for turn in range(200):
            plant = drawn_plant(source, 1 + turn % 3)
            line, tracker = drawn_line(source, len(plant.line)), drawn_tracker(source, len(plant.line))
            for other in (Plant(line, plant.tracker), Plant(plant.line, tracker), Plant(line, tracker)):
                equal = fields_of(plant) == fields_of(other)
                self.assertIs(plant == other, equal)
                self.assertIs(other == plant, equal)
                self.assertIs(plant != other, not equal)

    def test_plants_that_differ_in_one_field_differ(self):
        one = fields_of(Plant.read(EXAMPLE))
        others = {"belts": [2, 2], "scans": [], "slips": (1, 5), "words": ["missed"], "stretch": None,
                  "rooms": [4, 4], "seek": 2, "empty": "blank", "strange": "none", "pause": "keep"}
        for name, value in others.items():
            plant = plant_of({**one, name: value})
            self.assertFalse(plant == Plant.read(EXAMPLE))
            self.assertTrue(plant != Plant.read(EXAMPLE))
            self.assertNotEqual(plant.text, EXAMPLE)

    def test_equal_to_no_value_of_another_class(self):
        plant = Plant.read(EXAMPLE)
        for value in ANY_VALUES + (plant.line, plant.tracker, EXAMPLE, Run(plant), (plant.line, plant.tracker)):
            self.assertFalse(plant == value)
            self.assertFalse(value == plant)
            self.assertTrue(plant != value)

    def test_lists_do_not_reach_into_the_plant(self):
        belts, rooms = [2, 3], [3, 4]
        plant = Plant(Line(*belts), Tracker(*rooms))
        text = plant.text
        belts.append(1)
        rooms.clear()
        plant.line.belts().clear()
        plant.line.words().append("once")
        plant.tracker.rooms()[0] = 9
        self.assertEqual(plant.text, text)
        self.assertEqual((plant.line.belts(), plant.tracker.rooms()), ([2, 3], [3, 4]))

    def test_members_are_defined_in_the_class(self):
        for name in ("__init__", "__eq__", "__repr__", "with_offers", "read"):
            self.assertIn(name, vars(Plant))
        self.assertIsInstance(vars(Plant)["read"], staticmethod)
        for name in ("line", "tracker", "text"):
            self.assertIsInstance(vars(Plant)[name], property)
        self.assertEqual(Plant.__module__, "ownchute.plants")


class BentTexts(unittest.TestCase):

    def check(self, text):
        """Check that a text is read as what it tells of, or refused; return whether it is read."""
        fields = fields_of_text(text)
        if fields is None:
            assert_refused(self, InvalidText, 0, Plant.read, text)
            return False
        plant = Plant.read(text)
        self.assertEqual(shown(fields_of(plant)), shown(fields))
        self.assertEqual(plant.text, text)
        self.assertEqual(plant, plant_of(fields))
        return True

    def texts(self, seed):
        return list(LITERALS) + [plant.text for plant in drawn_plants(seed, 60)]

    def test_right_texts(self):
        for text in self.texts(13):
            self.assertTrue(self.check(text))

    def test_word_left_out_or_doubled(self):
        for text in self.texts(14):
            words = text.split(" ")
            for at in range(len(words)):
                self.check(" ".join(words[:at] + words[at + 1:]))
                self.check(" ".join(words[:at + 1] + words[at:]))
                self.check(" ".join(words[:at]))
                self.check(" ".join(words[at:]))

    def test_words_exchanged(self):
        for text in self.texts(15)[:25]:
            words = text.split(" ")
            for one, other in itertools.combinations(range(len(words)), 2):
                bent = list(words)
                bent[one], bent[other] = bent[other], bent[one]
                self.check(" ".join(bent))

    def test_word_replaced_or_put_in(self):
        read = 0
        for text in self.texts(16)[:25]:
            words = text.split(" ")
            for at in range(len(words) + 1):
                for word in VOCABULARY:
                    read += self.check(" ".join(words[:at] + [word] + words[at + 1:]))
                    read += self.check(" ".join(words[:at] + [word] + words[at:]))
        self.assertGreater(read, 500)

    def test_letters_bent(self):
        source = random.Random(17)
        for text in self.texts(17)[:30]:
            for at in range(len(text)):
                self.check(text[:at] + text[at + 1:])
                self.check(text[:at] + text[at] + text[at:])
                self.check(text[:at] + text[at].upper() + text[at + 1:])
                for sign in (" ", "0", "1", "\n", source.choice("abz~+-._,")):
                    self.check(text[:at] + sign + text[at:])
                    self.check(text[:at] + sign + text[at + 1:])

    def test_sections_exchanged_or_doubled(self):
        sections = ["belts 2 3", "scans 1", "slips 1 4 missed", "stretch 6", "rooms 3 4", "seek 1 none first clear"]
        for order in itertools.permutations(sections):
            self.assertIs(self.check(" ".join(order)), list(order) == sections)
        for at in range(len(sections)):
            self.assertFalse(self.check(" ".join(sections[:at + 1] + sections[at:])))
            self.assertIs(self.check(" ".join(sections[:at] + sections[at + 1:])), at in (1, 3))

    def test_blanks_and_line_feeds(self):
        for text in ("", " ", "\n", EXAMPLE + " ", " " + EXAMPLE, EXAMPLE + "\n", "\n" + EXAMPLE,
                     EXAMPLE.replace(" ", "  "), EXAMPLE.replace(" ", "\n"), EXAMPLE.replace(" ", "\t"),
                     EXAMPLE + "\n" + EXAMPLE, EXAMPLE.upper(), EXAMPLE + EXAMPLE, "a" * 3000, " " * 3000):
            self.assertFalse(self.check(text))

    def test_numbers_are_digits_alone(self):
        for word in ("01", "+1", "-1", "1.", "1_0", "0x1", "1 ", " 1", "one", "00", "1e0", "9" * 2000, "1" * 3000, "1" * 6000,
                     "\u0661", "\u00b9"):
            assert_refused(self, InvalidText, 0, Plant.read, f"belts {word} slips 1 4 rooms 1 seek 0 none first clear")
            assert_refused(self, InvalidText, 0, Plant.read, f"belts 1 slips {word} 4 rooms 1 seek 0 none first clear")
            assert_refused(self, InvalidText, 0, Plant.read, f"belts 1 slips 1 4 rooms 1 seek {word} none first clear")
            assert_refused(self, InvalidText, 0, Plant.read,
                           f"belts 1 slips 1 4 stretch {word} rooms 1 seek 0 none first clear")

    def test_as_many_rooms_as_belts(self):
        for belts, rooms in itertools.product(range(5), repeat=2):
            text = "belts" + " 1" * belts + " slips 1 4 rooms" + " 1" * rooms + " seek 0 none first clear"
            self.assertIs(self.check(text), belts == rooms and 1 <= belts <= 3)

    def test_values_of_other_kinds(self):
        for value in list(ANY_VALUES) + drawn_values(18, 200) + [[EXAMPLE], (EXAMPLE,), EXAMPLE.split(" ")]:
            assert_refused(self, InvalidText, 0, Plant.read, value)


def offers_of(many):
    """Return all offers for plants with so many belts."""
    offers = [(word, point) for word in ("scan", "eye") for point in range(1, many)]
    offers += [("seek", number) for number in range(4)]
    offers += [("empty", "blank"), ("empty", "none"), ("strange", "first"), ("strange", "none"), ("pause", "clear"),
               ("pause", "keep"), ("stretch", None)]
    offers += [("room", belt, number) for belt in range(1, many + 1) for number in range(1, 5)]
    return offers + [("stretch", number) for number in range(1, 13)]


def changed_fields(fields, offer):
    fields = copy.deepcopy(fields)
    if offer[0] == "scan":
        fields["scans"] = sorted({*fields["scans"], offer[1]})
    elif offer[0] == "eye":
        fields["scans"] = sorted({*fields["scans"]} - {offer[1]})
    elif offer[0] == "room":
        fields["rooms"][offer[1] - 1] = offer[2]
    else:
        fields[offer[0]] = offer[1]
    return fields


def wrong_offers(many):
    """Return values that are no offers for plants with so many belts."""
    words = ("scan", "eye", "seek", "empty", "strange", "pause", "room", "stretch", "belts", "slips", "Seek", "")
    values = list(ANY_VALUES) + [(word,) for word in words] + [list(offer) for offer in offers_of(many)]
    right = [shown(offer) for offer in offers_of(many)]
    for word in words:
        values += [(word, value) for value in ANY_VALUES] + [(word, 1, value) for value in ANY_VALUES]
        values += [(word, value, 1) for value in ANY_VALUES] + [(word, 1, 1, 1)]
    values += [(offer,) for offer in offers_of(many)] + [offer + (1,) for offer in offers_of(many)]
    return [value for value in values if shown(value) not in right]


class Offers(unittest.TestCase):

    def check(self, plant, offers):
        fields = before = fields_of(plant)
        for offer in offers:
            fields = changed_fields(fields, offer)
        changed = plant.with_offers(*offers)
        self.assertIs(type(changed), Plant)
        self.assertEqual(shown(fields_of(changed)), shown(fields))
        self.assertEqual(changed, plant_of(fields))
        self.assertEqual(changed.text, plant_of(fields).text)
        self.assertEqual(shown(fields_of(plant)), shown(before))

    def test_none(self):
        for plant in drawn_plants(19, 30):
            self.check(plant, [])

    def test_each_one(self):
        for plant in drawn_plants(20, 40):
            for offer in offers_of(len(plant.line)):
                self.check(plant, [offer])
                self.assertEqual(plant.with_offers(offer, offer), plant.with_offers(offer))

    def test_several_in_their_order(self):
        source = random.Random(21)
        for plant in drawn_plants(21, 200):
            self.check(plant, source.choices(offers_of(len(plant.line)), k=source.randint(2, 12)))
        plant = Plant.read(EXAMPLE)
        self.assertEqual(plant.with_offers(("eye", 1), ("scan", 1), ("seek", 2), ("seek", 0)).text,
                         EXAMPLE.replace("seek 1", "seek 0"))
        self.assertEqual(plant.with_offers(("scan", 1), ("eye", 1)).text, EXAMPLE.replace("scans 1 ", ""))
        self.assertEqual(plant.with_offers(*[("room", 2, 1)] * 299 + [("room", 2, 2)]).text,
                         EXAMPLE.replace("rooms 3 4", "rooms 3 2"))

    def test_scanners_are_ascending(self):
        plant = Plant(Line(1, 1, 1), Tracker(1, 1, 1))
        self.assertEqual(plant.with_offers(("scan", 2), ("scan", 1)).line.scans(), [1, 2])

    def test_wrong_offers(self):
        for many in (1, 2, 3):
            plant = Plant(Line(*[2] * many), Tracker(*[2] * many))
            right = ("seek", 1)
            for value in wrong_offers(many):
                assert_refused(self, InvalidOffer, 0, plant.with_offers, value)
                assert_refused(self, InvalidOffer, 2, plant.with_offers, right, right, value, right)
            self.assertEqual(plant, Plant(Line(*[2] * many), Tracker(*[2] * many)))

    def test_first_wrong_offer_counts(self):
        plant = Plant.read(EXAMPLE)
        for at in range(6):
            offers = [("eye", 1)] * at + [("eye", 2)] + [None, ("seek", 0), ("seek", 4)]
            assert_refused(self, InvalidOffer, at, plant.with_offers, *offers)

    def test_points_and_belts_of_the_plant(self):
        for many in (1, 2, 3):
            plant = Plant(Line(*[1] * many), Tracker(*[1] * many))
            for point in range(-1, 5):
                for word in ("scan", "eye"):
                    if not 1 <= point < many:
                        assert_refused(self, InvalidOffer, 0, plant.with_offers, (word, point))
                if not 1 <= point <= many:
                    assert_refused(self, InvalidOffer, 0, plant.with_offers, ("room", point, 1))
            for number in without(range(1, 5)):
                assert_refused(self, InvalidOffer, 0, plant.with_offers, ("room", many, number))


if __name__ == "__main__":
    unittest.main()
