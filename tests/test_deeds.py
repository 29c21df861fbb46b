"""Promises 10 and 11: deeds, and the texts of flows."""

import random
import unittest

from ownchute.deeds import flow_text, is_deed, read_flow
from ownchute.errors import InvalidText
from ownchute.lines import Line
from ownchute.plants import Plant
from ownchute.trackers import Tracker
from tests.drawn import ANY_VALUES, assert_refused, drawn_flow, drawn_plants, drawn_values, shown
from tests.model import SIGHTS, deeds_of

PLANTS = [Plant(Line(*[2] * many, words=words), Tracker(*[2] * many))
          for many in (1, 2, 3) for words in ((), ("missed", "twice", "swapped"))]
WRONG_LINES = (
    "", " ", "come", "come ", " come once", "come once ", "come  once", "Come once", "come Once", "come one",
    "come once once", "come 1 once", "come missed,", "once", "once come", "pass", "pass 1", "pass once", "pass once 1",
    "pass 0 once", "pass 4 once", "pass -1 once", "pass +1 once", "pass 01 once", "pass 1. once", "pass 10 once",
    "pass one once", "pass  once", "pass 1  once", "pass 1 once ", " pass 1 once", "pass 1 once 1", "pass 1 none",
    "pass 1 1", "pass True once", "pause ", " pause", "pause pause", "pause once", "pause 1", "Pause", "paus", "wait",
    "('pause',)", "come\tonce", "come once\r", "0", "~", "a" * 3000,
)


class Deeds(unittest.TestCase):

    def test_all_deeds(self):
        for plant in PLANTS:
            for deed in deeds_of(plant):
                self.assertIs(is_deed(plant, deed), True)
                self.assertIs(is_deed(plant=plant, value=deed), True)

    def test_deeds_whether_possible_or_not(self):
        plant = Plant(Line(1, 1, slips=(0, 1), words=()), Tracker(1, 1))
        for deed in (("pause",), ("come", "swapped"), ("pass", 2, "swapped"), ("pass", 1, "twice")):
            self.assertIs(is_deed(plant, deed), True)

    def test_points_of_the_plant(self):
        for plant in PLANTS:
            for point in (-10 ** 29, -1, 0, 1, 2, 3, 4, 10 ** 29):
                for sight in SIGHTS:
                    self.assertIs(is_deed(plant, ("pass", point, sight)), 1 <= point <= len(plant.line))

    def test_lists_are_no_deeds(self):
        for plant in PLANTS:
            for deed in deeds_of(plant):
                self.assertIs(is_deed(plant, list(deed)), False)

    def test_bent_deeds(self):
        for plant in PLANTS:
            right = [shown(deed) for deed in deeds_of(plant)]
            for deed in deeds_of(plant):
                bent = [deed[:-1], deed[1:], deed + ("once",), deed + (1,), deed[::-1], (deed,), (deed, deed)]
                bent += [deed[:at] + (value,) + deed[at + 1:] for at in range(len(deed)) for value in ANY_VALUES]
                bent += [deed[:at] + (value,) + deed[at:] for at in range(len(deed)) for value in ANY_VALUES]
                for value in bent:
                    self.assertIs(is_deed(plant, value), shown(value) in right, value)

    def test_values_of_all_kinds(self):
        values = list(ANY_VALUES) + drawn_values(31, 300) + ["come", "pause", "pass", "come once", ("pause", "once"),
                                                             ("wait",), ("pass", "once"), ("come", 1, "once")]
        for plant in PLANTS:
            for value in values:
                self.assertIs(is_deed(plant, value), False)


class Texts(unittest.TestCase):

    def test_literal_text(self):
        flow = [("come", "once"), ("come", "swapped"), ("pass", 1, "missed"), ("pass", 2, "twice"), ("pause",)]
        text = "come once\ncome swapped\npass 1 missed\npass 2 twice\npause\n"
        self.assertEqual(shown(flow_text(flow)), shown(text))
        self.assertEqual(flow_text(tuple(flow)), text)
        self.assertEqual(flow_text(flow=flow), text)
        self.assertEqual(shown(read_flow(PLANTS[2], text)), shown(flow))
        self.assertEqual(read_flow(plant=PLANTS[2], text=text), flow)

    def test_empty(self):
        self.assertEqual(shown(flow_text([])), shown(""))
        for plant in PLANTS:
            self.assertEqual(shown(read_flow(plant, "")), "[]")

    def test_each_deed(self):
        for plant in PLANTS:
            for deed in deeds_of(plant):
                text = " ".join(str(item) for item in deed) + "\n"
                self.assertEqual(flow_text([deed]), text)
                self.assertEqual(shown(read_flow(plant, text)), shown([deed]))

    def test_drawn_deeds_and_flows(self):
        source = random.Random(32)
        for plant in drawn_plants(32, 60):
            deeds = source.choices(deeds_of(plant), k=source.randint(0, 300))
            for flow in (deeds, drawn_flow(source, plant, 40)):
                before = list(flow)
                text = flow_text(flow)
                self.assertEqual(flow, before)
                self.assertEqual(text.count("\n"), len(flow))
                again = read_flow(plant, text)
                self.assertIs(type(again), list)
                self.assertEqual(shown(again), shown(flow))
                self.assertTrue(all(is_deed(plant, deed) for deed in again))

    def test_lists_are_new(self):
        text = "come once\npause\n"
        read_flow(PLANTS[0], text).clear()
        read_flow(PLANTS[0], text)[0] = None
        self.assertEqual(read_flow(PLANTS[0], text), [("come", "once"), ("pause",)])


class WrongTexts(unittest.TestCase):

    def test_wrong_line_at_any_place(self):
        source = random.Random(33)
        plant = PLANTS[4]
        for wrong in WRONG_LINES:
            for many in (0, 1, 2, 7):
                lines = [flow_text([deed]) for deed in source.choices(deeds_of(plant), k=many)]
                for at in range(many + 1):
                    text = "".join(lines[:at]) + wrong + "\n" + "".join(lines[at:])
                    assert_refused(self, InvalidText, at, read_flow, plant, text)

    def test_first_wrong_line_counts(self):
        plant = PLANTS[0]
        assert_refused(self, InvalidText, 1, read_flow, plant, "pause\nx\n\ny\n")
        assert_refused(self, InvalidText, 2, read_flow, plant, "pause\npause\n\n\npause")
        assert_refused(self, InvalidText, 0, read_flow, plant, "x\npause")
        assert_refused(self, InvalidText, 0, read_flow, plant, "\n")
        assert_refused(self, InvalidText, 1, read_flow, plant, "pause\n\n")

    def test_line_feed_that_lacks(self):
        source = random.Random(34)
        for plant in PLANTS:
            for many in (1, 2, 3, 100):
                flow = source.choices(deeds_of(plant), k=many)
                assert_refused(self, InvalidText, many - 1, read_flow, plant, flow_text(flow)[:-1])
                assert_refused(self, InvalidText, many, read_flow, plant, flow_text(flow) + "x")
                assert_refused(self, InvalidText, many, read_flow, plant, flow_text(flow) + " ")

    def test_points_of_the_plant(self):
        for plant in PLANTS:
            for point in (1, 2, 3, 4):
                text = f"come once\npass {point} once\n"
                if point <= len(plant.line):
                    self.assertEqual(read_flow(plant, text), [("come", "once"), ("pass", point, "once")])
                else:
                    assert_refused(self, InvalidText, 1, read_flow, plant, text)

    def test_letters_bent(self):
        source = random.Random(35)
        plant = PLANTS[3]
        lines = {flow_text([deed])[:-1]: deed for deed in deeds_of(plant)}
        for text in lines:
            for at in range(len(text)):
                for bent in (text[:at] + text[at + 1:], text[:at] + source.choice("abz 019+-.") + text[at + 1:],
                             text[:at] + source.choice("abz 019+-.") + text[at:], text[:at] + "\n" + text[at:]):
                    if bent not in lines:
                        assert_refused(self, InvalidText, 1, read_flow, plant, "come twice\n" + bent + "\n")
                    else:
                        self.assertEqual(read_flow(plant, bent + "\n"), [lines[bent]])

    def test_values_of_other_kinds(self):
        values = [value for value in list(ANY_VALUES) + drawn_values(36, 200) if not isinstance(value, str)]
        for value in values + [["pause\n"], ("pause\n",), ("pause",), [("pause",)]]:
            assert_refused(self, InvalidText, 0, read_flow, PLANTS[0], value)


if __name__ == "__main__":
    unittest.main()
