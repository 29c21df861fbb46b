"""Promises 9 and 40 to 42: offers, least sets of offers, and greatest stretches."""

import itertools
import random
import unittest

from ownchute.choices import greatest_stretch, is_offer, least_sets
from ownchute.errors import InvalidNumber, InvalidOffer, TooMany
from ownchute.lines import Line
from ownchute.plants import Plant
from ownchute.trackers import Tracker
from ownchute.verdicts import judged
from tests.drawn import ANY_VALUES, assert_refused, drawn_plants, drawn_values, shown
from tests.oracle import small_graph
from tests.test_plants import changed_fields, fields_of, offers_of, plant_of, wrong_offers

# Few of its places are met, and it is not safe: the first queue drops what the second parcel needs.
SHORT = Plant(Line(2, 1, slips=(0, 1)), Tracker(1, 2))
RIGHT = Plant(Line(1, slips=(0, 1)), Tracker(1))
MISSED = Plant(Line(1, words=["missed"]), Tracker(2))


class IsOffer(unittest.TestCase):

    def test_right_offers(self):
        for plant in drawn_plants(161, 12):
            for offer in offers_of(len(plant.line)):
                self.assertIs(is_offer(plant, offer), True)
                self.assertIs(is_offer(value=offer, plant=plant), True)

    def test_wrong_offers(self):
        for many in (1, 2, 3):
            plant = Plant(Line(*[2] * many), Tracker(*[2] * many))
            for value in wrong_offers(many) + drawn_values(162, 200):
                self.assertIs(is_offer(plant, value), False, value)

    def test_points_and_belts_of_the_plant(self):
        for many in (1, 2, 3):
            plant = Plant(Line(*[1] * many), Tracker(*[1] * many))
            for point in range(-1, 6):
                for word in ("scan", "eye"):
                    self.assertIs(is_offer(plant, (word, point)), 1 <= point < many)
                self.assertIs(is_offer(plant, ("room", point, 1)), 1 <= point <= many)
                self.assertIs(is_offer(plant, ("room", many, point)), 1 <= point <= 4)
                self.assertIs(is_offer(plant, ("seek", point)), 0 <= point <= 3)
            for stretch in range(-2, 16):
                self.assertIs(is_offer(plant, ("stretch", stretch)), 1 <= stretch <= 12)

    def test_agrees_with_with_offers(self):
        source = random.Random(163)
        for plant in drawn_plants(163, 60):
            values = source.choices(offers_of(len(plant.line)), k=source.randint(0, 4))
            for wrong in source.sample(wrong_offers(len(plant.line)), 6):
                at = source.randint(0, len(values))
                self.assertEqual([is_offer(plant, value) for value in values], [True] * len(values))
                assert_refused(self, InvalidOffer, at, plant.with_offers, *values[:at], wrong, *values[at:], None)
            fields = before = fields_of(plant)
            for offer in values:
                fields = changed_fields(fields, offer)
            self.assertEqual(plant.with_offers(*values), plant_of(fields))
            self.assertEqual(shown(fields_of(plant)), shown(before))


def safe_sets(plant, offers, strict):
    """Return all sets of offers that make a plant safe, by the flows of the plants."""
    found = []
    for many in range(len(offers) + 1):
        for part in itertools.combinations(range(len(offers)), many):
            fields = fields_of(plant)
            for at in part:
                fields = changed_fields(fields, offers[at])
            graph = small_graph(plant_of(fields), 400)
            if graph is None or graph.shortest_astray(strict) is None:
                found.append(None if graph is None else part)
    return found


class LeastSets(unittest.TestCase):

    def check(self, plant, offers, strict):
        sets = safe_sets(plant, offers, strict)
        if None in sets:
            return None
        expected = [one for one in sets if not any(set(other) < set(one) for other in sets)]
        told = least_sets(plant, offers, strict=strict)
        self.assertIs(type(told), list)
        self.assertEqual(shown(told), shown(expected))
        self.assertEqual(least_sets(most=5000, strict=strict, offers=tuple(offers), plant=plant), expected)
        return expected

    def test_drawn_offers(self):
        source = random.Random(164)
        found = []
        for plant in drawn_plants(164, 110):
            many = len(plant.line)
            text = plant.text
            offers = source.choices(offers_of(many), k=source.randint(0, 3))
            offers += source.choices(offers, k=1) if offers and source.random() < 0.3 else []
            for strict in (False, True):
                found.append(self.check(plant, offers, strict))
            self.assertEqual(plant.text, text)
        sets = [one for row in found if row for one in row]
        self.assertGreater(found.count([]), 20)
        self.assertIn((), sets)
        self.assertIn(1, [len(one) for one in sets])

    def test_offers_that_help(self):
        """Rooms and rules that matter, so that sets of one, two and three offers are least ones."""
        source = random.Random(165)
        sizes = set()
        lines = [Line(2, 2, slips=(0, 1)), Line(2, 1, 2, slips=(0, 1)), Line(3, slips=(1, 2), words=["twice"]),
                 Line(2, 1, slips=(0, 2))]
        for turn in range(40):
            line = lines[turn % 4]
            plant = Plant(line, Tracker(*[1] * len(line), empty=source.choice(("blank", "none"))))
            rooms = [("room", belt, room) for belt in range(1, len(line) + 1) for room in (2, 3)]
            offers = source.choices(rooms + [("stretch", 1), ("pause", "keep"), ("seek", 1)], k=3)
            for strict in (False, True):
                sizes |= {len(one) for one in self.check(plant, offers, strict) or []}
        self.assertTrue({1, 2} <= sizes)

    def test_literals(self):
        offers = [("room", 1, 2), ("seek", 1), ("stretch", 1)]
        self.assertEqual(least_sets(SHORT, offers), [(0,), (2,)])
        self.assertEqual(least_sets(SHORT, offers, strict=True), [(0,), (2,)])
        self.assertEqual(least_sets(SHORT, [("seek", 1)] * 3), [])
        self.assertEqual(least_sets(SHORT, [("room", 1, 2)] * 3), [(0,), (1,), (2,)])
        self.assertEqual(least_sets(SHORT, []), [])
        self.assertEqual(least_sets(RIGHT, []), [()])
        self.assertEqual(least_sets(RIGHT, [("room", 1, 4)] * 6), [()])
        self.assertEqual(least_sets(SHORT, [("room", 1, 2), ("room", 1, 1)]), [(0,)])
        self.assertEqual(least_sets(SHORT, [("room", 1, 1), ("room", 1, 2)]), [(1,)])
        both = Plant(Line(2, 2, slips=(0, 1)), Tracker(1, 1))
        self.assertEqual(least_sets(both, [("room", 2, 2), ("seek", 2), ("room", 1, 3), ("stretch", 1),
                                           ("room", 2, 4), ("room", 1, 2)]), [(3,), (0, 2), (0, 5), (2, 4), (4, 5)])

    def test_offers_are_applied_in_their_order(self):
        """A later offer undoes an earlier one; a greater set need not be safe."""
        offers = [("stretch", 1), ("stretch", None), ("room", 1, 2)]
        self.assertEqual(least_sets(SHORT, offers), [(0,), (2,)])
        self.assertEqual(least_sets(SHORT, offers[1:] + offers[:1]), [(1,), (2,)])

    def test_strict(self):
        plant = Plant(Line(1, words=["missed"]), Tracker(1))
        self.assertEqual(least_sets(plant, [("seek", 0)]), [()])
        self.assertEqual(least_sets(plant, [("seek", 0)], strict=True), [])

    def test_lists_are_new_and_kept(self):
        offers = [("room", 1, 2), ("seek", 1)]
        least_sets(SHORT, offers).clear()
        self.assertEqual(least_sets(SHORT, offers), [(0,)])
        self.assertEqual(offers, [("room", 1, 2), ("seek", 1)])
        self.assertEqual(SHORT.text, Plant(Line(2, 1, slips=(0, 1)), Tracker(1, 2)).text)

    def test_too_many_offers(self):
        for offers in ([("seek", 1)] * 7, [None] * 7, [("seek", 9)] * 7, [("seek", 1)] * 300, list(ANY_VALUES)[:7]):
            assert_refused(self, TooMany, 6, least_sets, SHORT, offers)
            assert_refused(self, TooMany, 6, least_sets, SHORT, tuple(offers), strict=True, most=0)
        self.assertEqual(least_sets(RIGHT, [("seek", 1)] * 6), [()])

    def test_wrong_offers(self):
        source = random.Random(166)
        for many in (1, 2, 3):
            plant = Plant(Line(*[1] * many, slips=(0, 1)), Tracker(*[1] * many))
            wrong = wrong_offers(many)
            for value in wrong:
                assert_refused(self, InvalidOffer, 0, least_sets, plant, [value])
            for _ in range(100):
                offers = source.choices(offers_of(many), k=source.randint(0, 5))
                at = source.randint(0, len(offers))
                offers[at:at] = [source.choice(wrong)]
                assert_refused(self, InvalidOffer, at, least_sets, plant, offers + [None] * (len(offers) < 6))
                assert_refused(self, InvalidOffer, at, least_sets, plant, tuple(offers), most="none")

    def test_wrong_numbers(self):
        for value in [0, -1, 20001, 10 ** 29, True, False, None, "1", "", (), [], (1,), [1]]:
            for offers in ([], [("seek", 1)]):
                assert_refused(self, InvalidNumber, value, least_sets, RIGHT, offers, most=value)
            assert_refused(self, InvalidNumber, value, greatest_stretch, RIGHT, most=value)
            assert_refused(self, InvalidNumber, value, greatest_stretch, SHORT, strict=True, most=value)


class GreatestStretch(unittest.TestCase):

    def expected(self, plant, strict):
        """Return the greatest stretch, by the flows of the plants; None for plants with many places."""
        for stretch in range(1, 13):
            graph = small_graph(plant_of({**fields_of(plant), "stretch": stretch}), 150)
            if graph is None:
                return None
            if graph.shortest_astray(strict) is not None:
                return stretch - 1
        return 12

    def test_drawn_plants(self):
        found = set()
        for plant in drawn_plants(167, 100):
            text = plant.text
            for strict in (False, True):
                expected = self.expected(plant, strict)
                if expected is not None:
                    self.assertEqual(shown(greatest_stretch(plant, strict=strict)), shown(expected))
                    self.assertEqual(greatest_stretch(most=5000, strict=strict, plant=plant), expected)
                    found.add(expected)
            self.assertEqual(plant.text, text)
        self.assertTrue({0, 1, 2, 12} <= found)

    def test_literals(self):
        self.assertEqual(greatest_stretch(RIGHT), 12)
        self.assertEqual(greatest_stretch(RIGHT, strict=True), 12)
        self.assertEqual(greatest_stretch(SHORT), 1)
        self.assertEqual(greatest_stretch(MISSED), 1)
        self.assertEqual(greatest_stretch(MISSED, strict=True), 0)
        self.assertEqual(greatest_stretch(Plant(MISSED.line, Tracker(2, pause="keep"))), 0)
        for room in (1, 2, 3):
            plant = Plant(Line(3, slips=(0, 1)), Tracker(room))
            self.assertEqual(greatest_stretch(plant), 12 if room == 3 else room)

    def test_all_stretches_up_to_twelve_are_judged(self):
        many = len(judged(RIGHT.with_offers(("stretch", 12))).places())
        self.assertEqual(greatest_stretch(RIGHT, most=many), 12)
        assert_refused(self, TooMany, many - 1, greatest_stretch, RIGHT, most=many - 1)

    def test_stretch_of_the_plant_does_not_matter(self):
        for stretch in (None, 1, 5, 12):
            plant = Plant(MISSED.line.changed(stretch=stretch), MISSED.tracker)
            self.assertEqual(greatest_stretch(plant), 1)
            self.assertEqual(plant.line.stretch, stretch)

    def test_smaller_stretches_are_safe(self):
        for plant in drawn_plants(168, 45):
            if small_graph(plant, 100):
                for strict in (False, True):
                    greatest = greatest_stretch(plant, strict=strict)
                    words = [judged(plant.with_offers(("stretch", stretch)), strict=strict).word
                             for stretch in range(1, min(12, greatest + 1) + 1)]
                    self.assertEqual(words[:greatest], ["safe"] * greatest)
                    self.assertEqual(words[greatest:], ["astray"] * (greatest < 12))


if __name__ == "__main__":
    unittest.main()
