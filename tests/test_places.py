"""Promises 18 to 23: places, the deeds at them, what is behind them, and the order in which they are met."""

import copy
import inspect
import itertools
import random
import unittest

from ownchute.errors import InvalidDeed, InvalidNumber, NotNow, TooMany
from ownchute.lines import Line
from ownchute.places import (behind, deeds_at, first_place, is_place, is_right, met_places, walked,
                             words_of)
from ownchute.plants import Plant
from ownchute.runs import Run
from ownchute.trackers import Tracker
from tests.drawn import (ANY_VALUES, assert_refused, drawn_deed, drawn_flow, drawn_plants, drawn_values, shown,
                         wrong_numbers)
from tests.model import Model, deeds_of, met_by_flows, model_of_flow

TWO = Plant(Line(2, 1, slips=(1, 3), stretch=4), Tracker(2, 3))
TINY = Plant(Line(1, slips=(0, 1)), Tracker(1))


class FirstPlaces(unittest.TestCase):

    def test_literals(self):
        self.assertEqual(shown(first_place(TINY)), "((0,), ((),), -2, (), 0)")
        self.assertEqual(shown(first_place(TWO)), "((0, 0), ((), ()), -2, (0, 0), 0)")
        plant = Plant(Line(3, 1, 2, slips=(3, 6), stretch=1), Tracker(4, 4, 4))
        self.assertEqual(shown(first_place(plant=plant)), "((0, 0, 0), ((), (), ()), -2, (0, 0, 0, 0, 0), 0)")

    def test_place_of_the_empty_flow(self):
        for plant in drawn_plants(41, 60):
            first = first_place(plant)
            self.assertEqual(shown(first), shown(Model(plant).place()))
            self.assertEqual(walked(plant, []), [first])
            self.assertEqual(Run(plant).place(), first)
            self.assertIs(is_place(plant, first), True)
            self.assertIs(is_right(plant, first), True)


class PlacesOfFlows(unittest.TestCase):

    def test_literal_places(self):
        flow = [("come", "once"), ("come", "swapped"), ("pass", 1, "once"), ("come", "once"), ("pass", 2, "once"),
                ("pass", 1, "once"), ("pass", 2, "missed"), ("pass", 1, "once"), ("pass", 2, "once"), ("pause",)]
        places = [
            ((0, 0), ((), ()), -2, (0, 0), 0),
            ((1, 0), ((0,), ()), -2, (0, 0), 1),
            ((2, 0), ((1,), ()), 0, (0, 1), 2),
            ((1, 1), ((), (1,)), 0, (1, 0), 2),
            ((2, 1), ((0, 1), (2,)), -2, (0, 0), 3),
            ((2, 0), ((0, 1), ()), -2, (0, 0), 3),
            ((1, 1), ((1,), (0,)), -2, (0, 0), 3),
            ((1, 0), ((-1,), (0,)), -2, (0, 1), 3),
            ((0, 1), ((), (0, -1)), -2, (1, 0), 3),
            ((0, 0), ((), (-1,)), -2, (0, 0), 3),
            ((0, 0), ((), ()), -2, (0, 0), 0),
        ]
        self.assertEqual(shown(walked(TWO, flow)), shown(places))
        self.assertEqual(words_of(TWO, flow), ["own", "on", "own"])
        self.assertEqual(model_of_flow(TWO, flow).place(), places[-1])

    def test_literal_words(self):
        blank = Plant(Line(3), Tracker(3, empty="blank"))
        none = Plant(Line(3), Tracker(3))
        for plant in (blank, none):
            flow = [("come", "missed"), ("pass", 1, "once")] + [("come", "once")] * 2 + [("pass", 1, "once")] * 2
            self.assertEqual(words_of(plant, flow), ["on", "own", "own"])
            flow = [("come", "missed"), ("come", "once"), ("pass", 1, "once"), ("pass", 1, "once")]
            self.assertEqual(words_of(plant, flow), ["other", "on"])
            flow = [("come", "twice"), ("come", "once"), ("pass", 1, "once"), ("pass", 1, "once"), ("come", "once"),
                    ("pass", 1, "once")]
            self.assertEqual(words_of(plant, flow), ["own", "other", "other"])

    def test_walked_places_and_words(self):
        source = random.Random(42)
        for plant in drawn_plants(42, 90):
            model = Model(plant)
            places = [model.place()]
            for _ in range(50):
                model.do(drawn_deed(source, model))
                places.append(model.place())
            flow = model.flow
            self.assertEqual(shown(walked(plant, flow)), shown(places))
            self.assertEqual(walked(plant, tuple(flow)), places)
            self.assertEqual(walked(plant=plant, flow=flow), places)
            self.assertEqual(shown(words_of(plant, flow)), shown(model.words))
            self.assertEqual(words_of(flow=tuple(flow), plant=plant), model.words)

    def test_behind_each_deed_and_undo(self):
        source = random.Random(43)
        for plant in drawn_plants(43, 60):
            run, model = Run(plant), Model(plant)
            places, rights = [model.place()], [True]
            for _ in range(40):
                deed = drawn_deed(source, model)
                model.do(deed)
                run.do(deed)
                places.append(model.place())
                rights.append(model.is_right())
                self.assertEqual(shown(run.place()), shown(places[-1]))
                self.assertIs(is_place(plant, run.place()), True)
                self.assertIs(is_right(plant, run.place()), rights[-1])
            while len(places) > 1:
                places.pop()
                rights.pop()
                run.undo()
                self.assertEqual(shown(run.place()), shown(places[-1]))
                self.assertIs(is_right(plant=plant, place=run.place()), rights[-1])

    def test_is_right_of_literal_places(self):
        right = [((0, 0), ((), ()), -2, (0, 0), 0), ((2, 0), ((1, 0), ()), -2, (0, 0), 2),
                 ((1, 1), ((0,), (1,)), -2, (0, 1), 1), ((2, 1), ((1, 0), (2,)), -2, (0, 0), 4)]
        wrong = [((0, 0), ((), ()), -1, (0, 0), 0), ((1, 0), ((0,), ()), 0, (0, 1), 1),
                 ((2, 0), ((0, 1), ()), -2, (0, 0), 2), ((2, 0), ((1,), ()), -2, (0, 0), 2),
                 ((2, 0), ((1,), (0,)), -2, (0, 0), 2), ((1, 1), ((1,), (0,)), -2, (0, 0), 1),
                 ((0, 0), ((-1,), ()), -2, (0, 0), 0), ((0, 0), ((), (-2,)), -2, (0, 0), 0),
                 ((1, 0), ((0, -1), ()), -2, (0, 0), 1), ((1, 1), ((0,), (1, 1)), -2, (0, 0), 1)]
        for place in right:
            self.assertIs(is_right(TWO, place), True)
        for place in wrong:
            self.assertIs(is_right(TWO, place), False)

    def test_is_right_in_three_belts(self):
        plant = Plant(Line(3, 3, 3), Tracker(4, 4, 4))
        self.assertIs(is_right(plant, ((2, 1, 3), ((1, 0), (2,), (5, 4, 3)), -2, (0, 0, 0), 1)), True)
        self.assertIs(is_right(plant, ((2, 1, 3), ((1, 0), (2,), (5, 3, 4)), -2, (0, 0, 0), 1)), False)
        self.assertIs(is_right(plant, ((0, 0, 1), ((), (), (0,)), -2, (0, 0, 0), 0)), True)


class DeedsAt(unittest.TestCase):

    def test_literal_order(self):
        place = ((1, 1), ((0,), (1,)), -2, (0, 0), 2)
        self.assertEqual(deeds_at(TWO, place), [
            ("come", "once"), ("come", "missed"), ("come", "twice"), ("come", "swapped"),
            ("pass", 2, "once"), ("pass", 2, "missed"), ("pass", 2, "twice")])
        self.assertEqual(deeds_at(TWO, ((0, 0), ((), ()), -2, (0, 1), 2)), [("come", "once"), ("pause",)])
        self.assertEqual(deeds_at(TWO, ((1, 0), ((), ()), 0, (0, 0), 4)), [
            ("come", "once"), ("pass", 1, "once"), ("pass", 1, "missed"), ("pass", 1, "twice")])
        self.assertEqual(deeds_at(TWO, first_place(TWO))[-1], ("come", "swapped"))

    def test_order_and_places_behind(self):
        source = random.Random(44)
        for plant in drawn_plants(44, 60):
            model = Model(plant)
            for _ in range(25):
                place = model.place()
                deeds = deeds_at(plant, place)
                self.assertIs(type(deeds), list)
                self.assertEqual(shown(deeds), shown(model.deeds()))
                self.assertEqual(deeds_at(plant=plant, place=place), deeds)
                for deed in deeds:
                    other = copy.deepcopy(model)
                    word = other.do(deed)
                    self.assertEqual(shown(behind(plant, place, deed)), shown((other.place(), word)))
                    self.assertEqual(behind(deed=deed, place=place, plant=plant), (other.place(), word))
                model.do(drawn_deed(source, model))

    def test_words_of_passes_at_the_last_point_alone(self):
        for plant in drawn_plants(45, 30):
            for place in walked(plant, drawn_flow(random.Random(45), plant, 30)):
                for deed in deeds_at(plant, place):
                    word = behind(plant, place, deed)[1]
                    if deed[:2] == ("pass", len(plant.line)):
                        self.assertIn(word, ("own", "other", "on"))
                    else:
                        self.assertIsNone(word)

    def test_lists_are_new(self):
        first = first_place(TWO)
        deeds_at(TWO, first).clear()
        deeds_at(TWO, first).append(None)
        self.assertEqual(deeds_at(TWO, first), [("come", sight) for sight in ("once", "missed", "twice", "swapped")])
        flow = [("come", "once"), ("pass", 1, "once"), ("pass", 2, "once")]
        walked(TWO, flow).clear()
        words_of(TWO, flow).clear()
        self.assertEqual(len(walked(TWO, flow)), 4)
        self.assertEqual(words_of(TWO, flow), ["own"])
        self.assertIs(type(words_of(TWO, [])), list)
        self.assertIs(type(walked(TWO, [])), list)


def right_place():
    """Return a place of TWO and, for each path to a part of it, the values of this part that keep the form."""
    place = ((2, 1), ((1, 0), (2, -1, -2)), 0, (0, 1), 3)
    codes = range(-2, 3)
    return place, {
        (0, 0): (2,), (0, 1): (1,), (1, 0, 0): codes, (1, 0, 1): codes, (1, 1, 0): codes, (1, 1, 1): codes,
        (1, 1, 2): codes, (2,): codes, (3, 0): (0,), (3, 1): (0, 1), (4,): range(5)}


def exchanged(place, path, value):
    """Return the place with another value of the part to which the path leads."""
    if not path:
        return value
    return place[:path[0]] + (exchanged(place[path[0]], path[1:], value),) + place[path[0] + 1:]


def part(place, path):
    for at in path:
        place = place[at]
    return place


class Forms(unittest.TestCase):

    def test_numbers_within_and_beyond_their_bounds(self):
        place, parts = right_place()
        self.assertIs(is_place(TWO, place), True)
        for path, right in parts.items():
            for value in list(range(-6, 16)) + list(ANY_VALUES) + drawn_values(46, 60):
                bent = exchanged(place, path, value)
                self.assertIs(is_place(TWO, bent), shown(value) in [shown(number) for number in right], bent)
                self.assertIs(is_place(plant=TWO, value=bent), is_place(TWO, bent))

    def test_tuples_of_other_kinds_and_lengths(self):
        place, _ = right_place()
        for path in ((), (0,), (1,), (3,), (1, 0), (1, 1)):
            row = part(place, path)
            values = list(ANY_VALUES) + drawn_values(47, 60) + [list(row), row + (0,), (row,), [row], row + ((),)]
            if path not in ((1, 0), (1, 1)):
                values += [row[:-1], row[1:], ()]
            for value in values:
                if not (path in ((1, 0), (1, 1)) and value in ((), (1,)) and shown(value) in ("()", "(1,)")):
                    self.assertIs(is_place(TWO, exchanged(place, path, value)), False, (path, value))

    def test_queues_up_to_their_rooms(self):
        for plant in drawn_plants(48, 30):
            first = first_place(plant)
            for at, room in enumerate(plant.tracker.rooms()):
                for many in range(7):
                    for code in (-2, -1):
                        place = exchanged(first, (1, at), (code,) * many)
                        self.assertIs(is_place(plant, place), many <= room)

    def test_codes_below_the_number_of_parcels(self):
        plant = Plant(Line(3, 2, 3), Tracker(4, 1, 2))
        for counts in itertools.product(range(4), range(3), range(4)):
            for code in range(-4, 12):
                for path, many in (((1, 0), 4), ((1, 1), 1), ((1, 2), 2)):
                    place = exchanged((counts, ((), (), ()), -2, (0, 0, 0), 0), path, (code,) * many)
                    self.assertIs(is_place(plant, place), -2 <= code < sum(counts))
                self.assertIs(is_place(plant, (counts, ((), (), ()), code, (0, 0, 0), 0)), -2 <= code < sum(counts))

    def test_counts_up_to_the_rooms(self):
        for plant in drawn_plants(49, 30):
            rooms = plant.line.belts()
            for counts in itertools.product(range(-1, 5), repeat=len(rooms)):
                place = (counts,) + first_place(plant)[1:]
                self.assertIs(is_place(plant, place), all(0 <= one <= room for one, room in zip(counts, rooms)))

    def test_slips_of_each_line(self):
        for most, among in itertools.product(range(4), range(1, 7)):
            plant = Plant(Line(1, slips=(most, among)), Tracker(1))
            for many in range(7):
                for slips in itertools.product((0, 1), repeat=many):
                    place = ((0,), ((),), -2, slips, 0)
                    self.assertIs(is_place(plant, place), many == among - 1 and sum(slips) <= most)

    def test_slips_whose_sum_hides_a_wrong_one(self):
        plant = Plant(Line(1, slips=(1, 4)), Tracker(1))
        for slips in ((2, -1, 0), (1, 1, -1), (3, -1, -1), (0, 2, 0), (0, -1, 0), (True, 0, 0), (0, 0, False)):
            self.assertIs(is_place(plant, ((0,), ((),), -2, slips, 0)), False)
        plant = Plant(Line(1, slips=(3, 4)), Tracker(1))
        for slips in ((2, 0, 0), (0, 2, 1), (0, 0, 3), (1, -1, 1)):
            self.assertIs(is_place(plant, ((0,), ((),), -2, slips, 0)), False)

    def test_comings_up_to_the_stretch_or_one(self):
        for stretch in [None] + list(range(1, 13)):
            plant = Plant(Line(1, slips=(0, 1), stretch=stretch), Tracker(1))
            for comings in range(-2, 16):
                self.assertIs(is_place(plant, ((0,), ((),), -2, (), comings)), 0 <= comings <= (stretch or 1))

    def test_places_of_other_plants(self):
        place = ((1, 0), ((0,), ()), -2, (0, 0), 1)
        self.assertIs(is_place(TWO, place), True)
        for line in (Line(2, slips=(1, 3)), Line(2, 1, 1, slips=(1, 3)), Line(2, 1, slips=(1, 4)),
                     Line(2, 1, slips=(1, 2))):
            plant = Plant(line, Tracker(*[3] * len(line)))
            self.assertIs(is_place(plant, place), False)

    def test_values_of_all_kinds(self):
        for plant in drawn_plants(50, 9):
            first = first_place(plant)
            for value in list(ANY_VALUES) + drawn_values(50, 200) + [list(first), (first,), first[:4], first + (0,)]:
                self.assertIs(is_place(plant, value), False)


class Futures(unittest.TestCase):

    def test_one_place_has_one_future(self):
        """Different flows to one place go on with equal places and words."""
        source = random.Random(51)
        shared = 0
        for plant in drawn_plants(51, 40):
            ways = {}
            for many in list(range(1, 15)) * 4:
                flow = drawn_flow(source, plant, many)
                ways.setdefault(walked(plant, flow)[-1], []).append(flow)
            for place, flows in ways.items():
                flows = [list(flow) for flow in sorted({tuple(flow) for flow in flows})]
                if len(flows) > 1:
                    shared += 1
                    self.check_future(source, plant, place, flows)
        self.assertGreater(shared, 100)

    def check_future(self, source, plant, place, flows):
        model = model_of_flow(plant, flows[0])
        many, words = len(model.flow), len(model.words)
        for _ in range(12):
            model.do(drawn_deed(source, model))
        rest, told = model.flow[many:], model.words[words:]
        for flow in flows:
            self.assertEqual(walked(plant, flow + rest)[len(flow):], walked(plant=plant, flow=model.flow)[many:])
            self.assertEqual(words_of(flow=flow + rest, plant=plant)[len(words_of(plant, flow)):], told)
            run = Run(plant)
            run.do(*flow)
            self.assertEqual(run.place(), place)

    def test_literal_flows_to_one_place(self):
        once = [("come", "once"), ("pass", 1, "once"), ("pass", 2, "once")]
        for flow in (once * 2, once * 5, once + [("pause",)] + once):
            rest = [("come", "missed"), ("pass", 1, "once"), ("pass", 2, "once"), ("come", "once")]
            plant = Plant(Line(2, 1, slips=(1, 3)), Tracker(2, 3))
            self.assertEqual(walked(plant, flow)[-1], ((0, 0), ((), ()), -2, (0, 0), 1))
            self.assertEqual(words_of(plant, flow + rest)[-1], "on")
            self.assertEqual(walked(plant, flow + rest)[-1], ((1, 0), ((0,), ()), -2, (0, 0), 1))


class WrongFlows(unittest.TestCase):

    def test_not_now(self):
        source = random.Random(52)
        for plant in drawn_plants(52, 40):
            model = Model(plant)
            for _ in range(12):
                flow, possible = list(model.flow), model.deeds()
                for deed in deeds_of(plant):
                    if deed not in possible:
                        for rest in ([], [("come", "once")], [("pause",)] * 2):
                            assert_refused(self, NotNow, len(flow), walked, plant, flow + [deed] + rest)
                            assert_refused(self, NotNow, len(flow), words_of, plant, tuple(flow + [deed] + rest))
                model.do(drawn_deed(source, model))

    def test_first_deed_that_is_not_possible_counts(self):
        flow = [("come", "once"), ("pass", 2, "once"), ("pause",), ("pass", 1, "swapped")]
        assert_refused(self, NotNow, 1, walked, TWO, flow)
        assert_refused(self, NotNow, 0, words_of, TWO, flow[1:])

    def test_invalid_deed_ahead_of_not_now(self):
        impossible = ("pass", 2, "once")
        values = list(ANY_VALUES) + drawn_values(53, 100)
        values += [["come", "once"], ("come",), ("come", "Once"), ("pass", 0, "once"), ("pass", 3, "once"),
                   ("pass", True, "once"), ("pass", 1), ("pass", 1, "never"), ("pause", "once"), [], (("pause",),)]
        for value in values:
            for at in range(4):
                flow = [impossible] * at + [value] + [impossible, None]
                for call in (walked, words_of):
                    assert_refused(self, InvalidDeed, at, call, TWO, flow)
                    assert_refused(self, InvalidDeed, at, call, TWO, tuple(flow))
            assert_refused(self, InvalidDeed, 2, walked, TWO, [("come", "once"), ("pass", 1, "once"), value])

    def test_flows_are_not_changed(self):
        flow = [("come", "once"), ("pass", 1, "missed"), ("pause",)]
        before = list(flow)
        assert_refused(self, NotNow, 2, walked, TWO, flow)
        assert_refused(self, NotNow, 2, words_of, TWO, flow)
        self.assertEqual(flow, before)

    def test_walk_of_a_long_flow(self):
        once = [("come", "once"), ("pass", 1, "once"), ("pass", 2, "once"), ("pause",)]
        self.assertEqual(words_of(TWO, once * 75), ["own"] * 75)
        self.assertEqual(len(walked(TWO, once * 75)), 301)
        self.assertEqual(walked(TWO, once * 75)[4::4], [first_place(TWO)] * 75)


class MetPlaces(unittest.TestCase):

    def places_by_turns(self, plants, many):
        """Return for each plant its first places, while the generators are asked by turns."""
        steps = [met_places(plant, most=20000) for plant in plants]
        rows = [[] for _ in plants]
        for _ in range(many):
            for row, step in zip(rows, steps):
                row += [place for place in [next(step, None)] if place is not None]
        return rows

    def test_literal_places(self):
        self.assertEqual(list(met_places(TINY)), [
            ((0,), ((),), -2, (), 0), ((1,), ((0,),), -2, (), 1), ((0,), ((),), -2, (), 1)])
        plant = Plant(Line(1, slips=(1, 1), words=["missed"], stretch=1), Tracker(1))
        self.assertEqual(list(met_places(plant)), [
            ((0,), ((),), -2, (), 0), ((1,), ((0,),), -2, (), 1), ((1,), ((),), -2, (), 1), ((0,), ((),), -2, (), 1),
            ((0,), ((-1,),), -2, (), 1)])

    def test_order_of_meeting(self):
        for plant in drawn_plants(54, 24):
            expected = [place for place, _ in met_by_flows(plant, 40)]
            places = list(itertools.islice(met_places(plant), 40))
            self.assertEqual(shown(places), shown(expected))

    def test_each_place_is_the_first_of_its_kind(self):
        for plant in drawn_plants(55, 30):
            places = list(itertools.islice(met_places(plant), 400))
            self.assertEqual(len(set(places)), len(places))
            self.assertTrue(all(is_place(plant, place) for place in places))
            behinds = [behind(plant, place, deed)[0] for place in places for deed in deeds_at(plant, place)]
            met = list(dict.fromkeys([first_place(plant)] + behinds))
            self.assertEqual(met[:len(places)], places)

    def test_by_turns(self):
        plants = [TWO, TINY, TWO] + drawn_plants(56, 4)
        for plant, row in zip(plants, self.places_by_turns(plants, 60)):
            self.assertEqual(row, list(itertools.islice(met_places(plant), 60)))

    def test_greatest_number(self):
        for plant in [TINY, Plant(Line(1, slips=(1, 3)), Tracker(1)), Plant(Line(1, 1, slips=(0, 1)), Tracker(1, 2))]:
            places = list(met_places(plant, most=20000))
            for most in range(1, len(places)):
                self.check_too_many(plant, most, places)
            for most in (len(places), len(places) + 1, 20000):
                self.assertEqual(list(met_places(plant, most=most)), places)
            self.assertEqual(list(met_places(plant=plant)), places)

    def check_too_many(self, plant, most, places):
        steps = met_places(plant, most=most)
        self.assertEqual([next(steps) for _ in range(most)], places[:most])
        assert_refused(self, TooMany, most, next, steps)
        self.assertEqual(list(steps), [])

    def test_five_thousand_if_nothing_else_is_said(self):
        plant = Plant(Line(3, 3, 3, slips=(3, 6)), Tracker(4, 4, 4))
        steps = met_places(plant)
        self.assertEqual(len([next(steps) for _ in range(5000)]), 5000)
        assert_refused(self, TooMany, 5000, next, steps)
        steps = met_places(plant, most=20000)
        self.assertEqual(len([next(steps) for _ in range(20000)]), 20000)
        assert_refused(self, TooMany, 20000, next, steps)

    def test_wrong_number(self):
        for value in wrong_numbers(1, 20000)[:2] + [0, -1, 20001, 10 ** 29, True, False, None, "1", "", (), [], (1,)]:
            steps = met_places(TWO, most=value)
            assert_refused(self, InvalidNumber, value, next, steps)
        for value in drawn_values(57, 100):
            if isinstance(value, bool) or not isinstance(value, int) or not 1 <= value <= 20000:
                assert_refused(self, InvalidNumber, value, list, met_places(TWO, most=value))

    def test_generator(self):
        self.assertTrue(inspect.isgenerator(met_places(TWO)))
        self.assertTrue(inspect.isgenerator(met_places(TWO, most="none")))
        self.assertRaises(TypeError, met_places, TWO, 5)

    def test_bounds_of_the_number(self):
        self.assertEqual(next(met_places(TWO, most=1)), first_place(TWO))
        self.assertEqual(next(met_places(TWO, most=20000)), first_place(TWO))
        steps = met_places(TWO, most=1)
        next(steps)
        assert_refused(self, TooMany, 1, next, steps)


if __name__ == "__main__":
    unittest.main()
