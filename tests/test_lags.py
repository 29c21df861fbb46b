"""Promises 37 to 39: greatest lags, and the papers that show lags."""

import itertools
import random
import unittest

from ownchute.errors import InvalidNumber
from ownchute.lags import Endless, Lag, lagged
from ownchute.lines import Line
from ownchute.mending import Mends, mended
from ownchute.plants import Plant
from ownchute.runs import Run
from ownchute.trackers import Tracker
from tests.bending import KINDS, bent_flows, with_values
from tests.drawn import ANY_VALUES, assert_refused, drawn_deed, drawn_flow, drawn_plants, shown
from tests.model import deeds_of, model_of_flow
from tests.oracle import endless_holds, greatest_lag_up_to, last_lag, small_graphs



def slippery(plants):
    """Return the plants with lines on which nearly all passings can be slips, so that records can stay for long."""
    slips = ((1, 1), (2, 2), (2, 3), (3, 3), (3, 4))
    return [Plant(plant.line.changed(slips=slips[at % 5], words=("missed",), stretch=None), plant.tracker)
            for at, plant in enumerate(plants)]


def two_belts():
    """Return plants with eyes alone in which records of parcels that have left can stay at either belt."""
    lines = [Line(1, 1, slips=(2, 3), words=words, stretch=stretch)
             for words in (["missed"], ["missed", "twice"]) for stretch in (None, 2)]
    return [Plant(line, Tracker(first, second, pause=pause, empty=empty)) for line in lines for first in (1, 2)
            for second in (1, 2) for pause in ("clear", "keep") for empty in ("none", "blank")]


PLANTS = [graph.plant for graph in small_graphs(drawn_plants(141, 160) + slippery(drawn_plants(148, 80)), 120)]
ONCE, OUT, LOST = ("come", "once"), ("pass", 1, "once"), ("pass", 1, "missed")
ALL_SLIP = Plant.read("belts 1 slips 1 1 missed rooms 1 seek 0 none first keep")


def papers(kind):
    pairs = [(plant, lagged(plant)) for plant in PLANTS]
    return [pair for pair in pairs if type(pair[1]) is kind]


class Lagged(unittest.TestCase):

    def test_small_plants(self):
        found = []
        for plant in PLANTS:
            paper = lagged(plant)
            if isinstance(paper, Lag):
                self.check_lag(plant, paper)
                found.append(paper.number)
            else:
                self.assertIs(type(paper), Endless)
                self.assertIs(endless_holds(plant, paper.flow(), paper.ring(), paper.rest()), True)
                self.assertEqual(greatest_lag_up_to(plant, 6), 7)
                found.append(None)
            self.assertIs(paper.holds(plant), True)
        self.assertTrue({None, 0, 1, 2, 3} <= set(found))
        self.assertGreater(found.count(None), 5)

    def check_lag(self, plant, paper):
        self.assertEqual(last_lag(plant, paper.flow()), paper.number)
        self.assertEqual(greatest_lag_up_to(plant, paper.number + 1), paper.number)

    def test_literals(self):
        for plant, number in ((Plant(Line(1, slips=(0, 1)), Tracker(1)), 0), (Plant(Line(2, words=[]), Tracker(1)), 0),
                              (Plant(Line(1, words=["missed"]), Tracker(2)), 1),
                              (Plant(Line(1, words=["missed"]), Tracker(3)), 2),
                              (Plant(Line(1, words=["missed"], stretch=1), Tracker(3, pause="clear")), 0),
                              (Plant(Line(1, words=["twice"]), Tracker(4)), 3)):
            paper = lagged(plant)
            self.assertEqual(shown(paper.number), shown(number), plant)
            self.assertIs(paper.holds(plant), True)
        self.assertIs(type(lagged(ALL_SLIP)), Endless)
        self.assertEqual(lagged(ALL_SLIP).rest()[-1], OUT)

    def test_lag_is_at_least_zero(self):
        plant = Plant(Line(3, slips=(0, 1)), Tracker(1))
        self.assertLess(last_lag(plant, [ONCE, ONCE, OUT]), 0)
        self.assertEqual(lagged(plant).number, 0)

    def test_records_that_stay_at_either_of_two_belts(self):
        numbers = []
        for plant in two_belts():
            paper = lagged(plant)
            self.assertIs(paper.holds(plant), True)
            if isinstance(paper, Endless):
                self.assertIs(endless_holds(plant, paper.flow(), paper.ring(), paper.rest()), True)
                numbers.append(None)
            else:
                self.assertEqual(greatest_lag_up_to(plant, paper.number + 1), paper.number)
                numbers.append(paper.number)
        self.assertGreater(numbers.count(None), 20)
        self.assertLess(numbers.count(None), len(numbers))

    def test_flows_of_runs_lag_no_more(self):
        source = random.Random(142)
        for plant, paper in papers(Lag):
            for _ in range(5):
                run = Run(plant)
                run.do(*drawn_flow(source, plant, 30))
                lags = [label - record for label, record, _ in run.sendings() if record is not None]
                self.assertLessEqual(max(lags, default=0), paper.number)

    def test_texts(self):
        for plant in PLANTS[:60]:
            one, other = lagged(plant), lagged(Plant.read(plant.text))
            self.assertIs(type(one), type(other))
            self.assertIs(other.holds(plant), True)
            if isinstance(one, Lag):
                self.assertEqual(one.number, other.number)
        for text, comings, lag in (
                ("belts 1 slips 1 4 missed rooms 1 seek 0 none first clear", 1, 0),
                ("belts 1 slips 0 4 missed rooms 1 seek 0 none first clear", 0, 0),
                ("belts 1 slips 1 4 missed stretch 1 rooms 4 seek 0 none first clear", 0, 0),
                ("belts 1 slips 1 4 missed stretch 2 rooms 4 seek 0 none first clear", 1, 1),
                ("belts 1 slips 1 4 missed rooms 4 seek 0 none first clear", None, 4),
                ("belts 1 slips 1 1 missed stretch 2 rooms 4 seek 0 none first keep", None, None)):
            self.check_text(Plant.read(text), comings, lag)

    def check_text(self, plant, comings, lag):
        told = mended(plant)
        self.assertEqual(told.comings if isinstance(told, Mends) else None, comings, plant)
        self.assertIs(told.holds(plant), True)
        paper = lagged(plant)
        self.assertEqual(paper.number if isinstance(paper, Lag) else None, lag, plant)

    def test_plants_of_more_places(self):
        for plant in drawn_plants(143, 40):
            if not plant.line.stretch or plant.line.stretch < 6:
                if small_graphs([plant], 600):
                    self.assertIs(lagged(plant=plant, most=600).holds(plant), True)

    def test_wrong_numbers(self):
        for value in [0, -1, 20001, 10 ** 29, True, False, None, "1", "", (), [], (1,), [1]]:
            assert_refused(self, InvalidNumber, value, lagged, ALL_SLIP, most=value)


class LagPapers(unittest.TestCase):

    def check(self, plant, number, flow):
        lag = last_lag(plant, flow)
        expected = lag is not None and shown(lag) == shown(number)
        self.assertIs(Lag(number, flow).holds(plant), expected)
        self.assertIs(Lag(flow=tuple(flow), number=number).holds(plant=plant), expected)
        return expected

    def test_other_numbers(self):
        for plant, paper in papers(Lag):
            for number in list(range(-4, 12)) + [10 ** 29, -10 ** 29]:
                self.assertIs(self.check(plant, number, paper.flow()), number == paper.number)

    def test_numbers_are_not_booleans(self):
        plant = Plant(Line(1, words=["missed"]), Tracker(2))
        self.assertIs(Lag(1, lagged(plant).flow()).holds(plant), True)
        self.assertIs(Lag(True, lagged(plant).flow()).holds(plant), False)
        self.assertIs(Lag(False, [ONCE, OUT]).holds(plant), False)

    def test_flows_of_any_lag(self):
        source = random.Random(144)
        lags = set()
        for plant in drawn_plants(144, 80):
            flow = drawn_flow(source, plant, 25)
            for at in range(len(flow) + 1):
                lag = last_lag(plant, flow[:at])
                lags.add(lag)
                self.assertIs(self.check(plant, 0 if lag is None else lag, flow[:at]), lag is not None)
                self.assertIs(self.check(plant, 1 if lag is None else lag + 1, flow[:at]), False)
        self.assertTrue({None, 0, 1, 2, -1} <= lags)

    def test_bent_flows(self):
        source = random.Random(145)
        held = 0
        for plant, paper in papers(Lag)[:50]:
            for flow in bent_flows(source, deeds_of(plant), paper.flow(), 25):
                held += self.check(plant, paper.number, flow)
        self.assertGreater(held, 60)

    def test_values_of_other_kinds(self):
        plant, paper = papers(Lag)[2]
        for value in KINDS:
            for flow in with_values(paper.flow(), [value]) + [[value]]:
                self.assertIs(Lag(paper.number, flow).holds(plant), False)
        for number in (0, 1, -1):
            self.assertIs(Lag(number, []).holds(plant), False)

    def test_one_paper_for_two_plants(self):
        held = 0
        pairs = papers(Lag)[:30]
        for (one, paper), (other, _) in itertools.product(pairs, repeat=2):
            held += self.check(other, paper.number, paper.flow()) and one != other
        self.assertGreater(held, 20)

    def test_number_and_list(self):
        flow = [ONCE, OUT]
        paper = Lag(0, flow)
        flow.clear()
        for _ in range(2):
            self.assertIs(paper.holds(ALL_SLIP), True)
            self.assertEqual(shown((paper.number, paper.flow())), shown((0, [ONCE, OUT])))
            paper.flow().clear()
        inner = [1, [2]]
        paper = Lag(3, (inner, (inner,)))
        inner[1].append(3)
        paper.flow()[0].append(4)
        self.assertEqual(paper.flow(), [[1, [2]], ([1, [2]],)])
        self.assertIs(type(paper.flow()), list)


class EndlessPapers(unittest.TestCase):

    def check(self, plant, flow, ring, rest):
        expected = endless_holds(plant, flow, ring, rest)
        self.assertIs(Endless(flow, ring, rest).holds(plant), expected)
        self.assertIs(Endless(rest=tuple(rest), flow=tuple(flow), ring=tuple(ring)).holds(plant=plant), expected)
        return expected

    def test_literals(self):
        ring, rest = [("come", "missed"), LOST], [("come", "missed"), OUT]
        self.assertIs(Endless([ONCE, LOST], ring, rest).holds(ALL_SLIP), True)
        self.assertIs(Endless([ONCE, LOST], ring + ring, rest).holds(ALL_SLIP), True)
        self.assertIs(Endless([ONCE, LOST], [], rest).holds(ALL_SLIP), False)
        self.assertIs(Endless([ONCE, LOST], [("pause",)], rest).holds(ALL_SLIP), False)
        self.assertIs(Endless([ONCE, LOST], ring, []).holds(ALL_SLIP), False)
        self.assertIs(Endless([], ring, [ONCE, OUT]).holds(ALL_SLIP), False)
        self.assertIs(Endless([ONCE], [OUT, ONCE], [OUT]).holds(ALL_SLIP), False)

    def test_differences_that_are_not_equal(self):
        plant = Plant.read("belts 1 slips 2 2 missed twice rooms 3 seek 0 none none keep")
        ring = [("come", "twice"), OUT, ("come", "missed"), LOST]
        self.assertEqual([last_lag(plant, ring * many + [ONCE, OUT] * 2) for many in range(3)], [0, 1, 3])
        self.assertIs(self.check(plant, [], ring, [ONCE, OUT] * 2), False)

    def test_bent_papers(self):
        source, held = random.Random(146), 0
        for plant, paper in papers(Endless)[:25]:
            flow, ring, rest = paper.flow(), paper.ring(), paper.rest()
            for bent in bent_flows(source, deeds_of(plant), flow, 15):
                held += self.check(plant, bent, ring, rest)
            for bent in bent_flows(source, deeds_of(plant), ring, 15):
                held += self.check(plant, flow, bent, rest)
            for bent in bent_flows(source, deeds_of(plant), rest, 15):
                held += self.check(plant, flow, ring, bent)
            for many in range(4):
                held += self.check(plant, flow, ring * many, rest)
                held += self.check(plant, flow + ring * many, ring, rest)
        self.assertGreater(held, 100)

    def test_papers_that_go_on(self):
        source, held = random.Random(147), 0
        for plant, paper in papers(Endless)[:20]:
            flow, ring, rest = paper.flow(), paper.ring(), paper.rest()
            for _ in range(8):
                model = model_of_flow(plant, flow + rest)
                for _ in range(source.randint(1, 3)):
                    model.do(drawn_deed(source, model))
                held += self.check(plant, flow, ring, model.flow[len(flow):])
        self.assertGreater(held, 0)

    def test_rounds_that_a_stretch_or_the_slips_end(self):
        line = Line(1, slips=(3, 3), words=["missed"])
        ring, rest = [("come", "missed"), LOST], [("come", "missed"), OUT]
        for stretch in [None] + list(range(1, 13)):
            plant = Plant(line.changed(stretch=stretch), Tracker(1, pause="keep"))
            self.assertIs(self.check(plant, [ONCE, LOST], ring, rest), stretch is None or stretch >= 4)
        for most, among in itertools.product(range(4), range(1, 7)):
            plant = Plant(line.changed(slips=(most, among)), Tracker(1))
            self.assertIs(self.check(plant, [ONCE, LOST], ring, rest), most >= among)
        plant = Plant(line.changed(words=["missed", "swapped"]), Tracker(4))
        self.check(plant, [("come", "swapped"), OUT], ring, rest)

    def test_values_of_other_kinds(self):
        plant, paper = papers(Endless)[0]
        flow, ring, rest = paper.flow(), paper.ring(), paper.rest()
        for value in ANY_VALUES:
            for bent in with_values(ring, [value]):
                self.assertIs(Endless(flow, bent, rest).holds(plant), False)
            self.assertIs(Endless(flow + [value], ring, rest).holds(plant), False)
            self.assertIs(Endless(flow, ring, rest + [value]).holds(plant), False)
        self.assertIs(Endless([], [], []).holds(plant), False)

    def test_one_paper_for_two_plants(self):
        held = 0
        pairs = papers(Endless)[:14] + papers(Lag)[:14]
        for (one, paper), (other, _) in itertools.product(papers(Endless)[:14], pairs):
            held += self.check(other, paper.flow(), paper.ring(), paper.rest()) and one != other
        self.assertGreater(held, 5)

    def test_lists_are_copied_and_new(self):
        plant, told = papers(Endless)[0]
        lists = [told.flow(), told.ring(), told.rest()]
        paper = Endless(*lists)
        for row in lists:
            row.clear()
        for _ in range(2):
            self.assertIs(paper.holds(plant), True)
            self.assertEqual([paper.flow(), paper.ring(), paper.rest()], [told.flow(), told.ring(), told.rest()])
            for row in (paper.flow(), paper.ring(), paper.rest()):
                self.assertIs(type(row), list)
                row.clear()
        inner = [1, [2]]
        paper = Endless([inner], [(inner,)], [inner])
        inner[1].append(3)
        paper.flow()[0].append(4)
        paper.ring()[0][0].append(4)
        paper.rest()[0][1].append(4)
        self.assertEqual((paper.flow(), paper.ring(), paper.rest()), ([[1, [2]]], [([1, [2]],)], [[1, [2]]]))

    def test_members_are_defined_in_the_classes(self):
        for kind, names in ((Lag, ("flow", "holds")), (Endless, ("flow", "ring", "rest", "holds"))):
            for name in names + ("__init__",):
                self.assertIn(name, vars(kind))
            self.assertEqual(kind.__module__, "ownchute.lags")
        self.assertIsInstance(vars(Lag)["number"], property)


if __name__ == "__main__":
    unittest.main()
