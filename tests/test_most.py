"""Promises 25 and 67: the greatest numbers of places that calls may meet."""

import random
import unittest

from ownchute.choices import greatest_stretch, least_sets
from ownchute.errors import TooMany
from ownchute.lags import lagged
from ownchute.lines import Line
from ownchute.mending import heights, mended, settled
from ownchute.plants import Plant
from ownchute.trackers import Tracker
from ownchute.verdicts import judged
from tests.drawn import assert_refused, drawn_plants
from tests.oracle import Graph, small_graphs, word_up_to

GRAPHS = small_graphs(drawn_plants(181, 80), 90)
# The first of these has more than 5000 places, the second one up to the flow that ends the search, too.
LONG = Plant.read("belts 3 1 scans 1 slips 3 6 twice stretch 12 rooms 4 1 seek 2 blank none clear")
WIDE = Plant.read("belts 3 3 3 scans 2 slips 2 6 twice swapped rooms 4 2 3 seek 0 blank first clear")
LARGE = Plant(Line(3, 3, 3, slips=(3, 6)), Tracker(4, 4, 4))


def less(many):
    """Return numbers below the number of places, the next ones first."""
    return [number for number in dict.fromkeys((many - 1, many - 2, many // 2, 2, 1)) if 0 < number < many]


class AllPlaces(unittest.TestCase):

    def test_number_of_places_and_less(self):
        for graph in GRAPHS:
            many = len(graph.places)
            for call in (settled, heights, mended, lagged):
                call(graph.plant, most=many)
                call(graph.plant, most=many + 1)
                call(graph.plant, most=20000)
                for most in less(many):
                    assert_refused(self, TooMany, most, call, graph.plant, most=most)

    def test_same_results_with_any_number_that_is_enough(self):
        for graph in GRAPHS[:30]:
            many = len(graph.places)
            self.assertEqual(settled(graph.plant, most=many), settled(graph.plant))
            self.assertEqual(heights(graph.plant, most=many), heights(graph.plant))

    def test_five_thousand_if_nothing_else_is_said(self):
        for call in (settled, heights, mended, lagged):
            assert_refused(self, TooMany, 5000, call, LARGE)
        plant = Plant(Line(2, 2, scans=[1]), Tracker(4, 4, seek=1))
        assert_refused(self, TooMany, 5000, settled, plant)
        self.assertEqual(len(heights(plant, most=5260)), 5260)
        assert_refused(self, TooMany, 5259, lagged, plant, most=5259)


class Judged(unittest.TestCase):

    def test_just_where_one_place_more_is_met(self):
        found = set()
        for graph in GRAPHS:
            many = len(graph.places)
            for strict in (False, True):
                for most in sorted({1, 2, 3, many, many + 1, 20000} | set(less(many)) | set(range(4, many, 5))):
                    found.add(self.check(graph.plant, strict, most))
        self.assertEqual(found, {"safe", "astray", "many"})

    def check(self, plant, strict, most):
        expected = word_up_to(plant, strict, most)
        if expected == "many":
            assert_refused(self, TooMany, most, judged, plant, strict=strict, most=most)
        else:
            self.assertEqual(judged(plant, strict=strict, most=most).word, expected)
        return expected

    def test_each_number_of_a_plant(self):
        for text in ("belts 1 slips 1 2 missed rooms 2 seek 0 none first clear",
                     "belts 2 1 slips 0 1 rooms 1 2 seek 0 none first clear",
                     "belts 1 slips 1 2 missed stretch 1 rooms 2 seek 0 none first clear"):
            graph = Graph(Plant.read(text))
            words = [self.check(graph.plant, strict, most) for strict in (False, True)
                     for most in range(1, len(graph.places) + 2)]
            self.assertIn("many", words)

    def test_deeds_are_looked_at_in_their_order(self):
        """The pass that ends the search comes behind comes that meet further places."""
        plant = Plant(Line(1, slips=(1, 1), words=["missed"]), Tracker(1))
        self.assertEqual([self.check(plant, True, most) for most in (1, 2, 3)], ["many", "many", "many"])
        self.assertEqual(self.check(plant, True, 4), "astray")

    def test_five_thousand_if_nothing_else_is_said(self):
        for strict in (False, True):
            assert_refused(self, TooMany, 5000, judged, WIDE, strict=strict)
        assert_refused(self, TooMany, 5000, judged, LONG)
        self.assertEqual(judged(WIDE, most=20000).word, "astray")
        places = judged(LONG, most=20000).places()
        self.assertEqual(judged(LONG, most=len(places)).places(), places)
        assert_refused(self, TooMany, len(places) - 1, judged, LONG, most=len(places) - 1)


class Choices(unittest.TestCase):

    def test_least_sets(self):
        source = random.Random(182)
        found = {True: 0, False: 0}
        offers = [("room", 1, 3), ("room", 1, 1), ("seek", 2), ("empty", "blank"), ("stretch", 1)]
        for graph in GRAPHS[:40]:
            many = len(graph.places)
            for strict in (False, True):
                for most in {many, many + 1, *less(many)}:
                    found[self.check_sets(graph.plant, source.sample(offers, 2), strict, most)] += 1
        self.assertGreater(min(found.values()), 50)

    def check_sets(self, plant, offers, strict, most):
        raised = self.sets_raise(plant, offers, strict, most)
        if raised:
            assert_refused(self, TooMany, most, least_sets, plant, offers, strict=strict, most=most)
        else:
            self.assertIs(type(least_sets(plant, offers, strict=strict, most=most)), list)
        return raised

    def sets_raise(self, plant, offers, strict, most):
        """Tell whether one of the sets that have no least set as a smaller part has too many places."""
        safe = []
        for part in ((), (0,), (1,), (0, 1)):
            if not any(set(one) <= set(part) for one in safe):
                word = word_up_to(plant.with_offers(*[offers[at] for at in part]), strict, most)
                if word == "many":
                    return True
                if word == "safe":
                    safe.append(part)
        return False

    def test_greatest_stretch(self):
        found = {True: 0, False: 0}
        for graph in GRAPHS[:40]:
            for strict in (False, True):
                for most in (1, 2, 3, 5, 9, 14, 20, 30, 60, 100):
                    found[self.check_stretch(graph.plant, strict, most)] += 1
        self.assertGreater(min(found.values()), 50)

    def check_stretch(self, plant, strict, most):
        words = []
        while len(words) < 12 and words[-1:] in ([], ["safe"]):
            words.append(word_up_to(plant.with_offers(("stretch", len(words) + 1)), strict, most))
        if words[-1] == "many":
            assert_refused(self, TooMany, most, greatest_stretch, plant, strict=strict, most=most)
        else:
            self.assertEqual(greatest_stretch(plant, strict=strict, most=most), words.count("safe"))
        return words[-1] == "many"

    def test_five_thousand_if_nothing_else_is_said(self):
        for plant in (LONG, WIDE):
            assert_refused(self, TooMany, 5000, least_sets, plant, [])
            assert_refused(self, TooMany, 5000, least_sets, plant, [("pause", "clear")])
        self.assertEqual(least_sets(LONG, [], most=20000), [()])
        assert_refused(self, TooMany, 5000, greatest_stretch, LONG)
        self.assertEqual(greatest_stretch(LONG, most=20000), 12)


if __name__ == "__main__":
    unittest.main()
