"""Promises 24, 26 to 30, 57 and 65: verdicts, what they show, and runs beside them."""

import itertools
import random
import unittest

from ownchute.errors import InvalidNumber, NothingLeft, NotNow, TooMany
from ownchute.lags import Lag, lagged
from ownchute.lines import Line
from ownchute.mending import Mends, heights, mended, settled
from ownchute.places import deeds_at, first_place, is_place, met_places, words_of
from ownchute.plants import Plant
from ownchute.runs import Run
from ownchute.trackers import Tracker
from ownchute.verdicts import Astray, Safe, Verdict, judged
from tests.bending import (KINDS, bent_flows, bent_places, with_one_twice, with_two_exchanged, with_values,
                           without_one)
from tests.drawn import assert_refused, drawn_flow, drawn_plants, drawn_tracker, drawn_values, shown, wrong_numbers
from tests.model import Model, deeds_of, model_of_flow
from tests.oracle import astray_holds, closed, safe_holds, small_graphs
from tests.runs_checked import done, told

GRAPHS = small_graphs(drawn_plants(101, 150), 150)
PLANT = Plant.read("belts 1 slips 1 4 missed rooms 2 seek 0 none first clear")
ONCE = ("come", "once")


def verdict_of(plant, strict):
    """Return the verdict, None where there are more than 4000 places."""
    try:
        return judged(plant, strict=strict, most=4000)
    except TooMany:
        return None


class Literals(unittest.TestCase):

    def test_words_and_reprs(self):
        for verdict, word in ((Verdict(), "open"), (Safe([]), "safe"), (Astray([]), "astray")):
            self.assertEqual(shown(verdict.word), shown(word))
            self.assertEqual(verdict.WORD, word)
            self.assertEqual(repr(verdict), f"Verdict({word})")
        self.assertEqual((Verdict.WORD, Safe.WORD, Astray.WORD), ("open", "safe", "astray"))
        self.assertTrue(issubclass(Safe, Verdict) and issubclass(Astray, Verdict))

    def test_members_are_defined_in_the_classes(self):
        for kind, names in ((Verdict, ()), (Safe, ("places",)), (Astray, ("flow",))):
            for name in ("holds", "__repr__", "WORD", "word") + names:
                self.assertIn(name, vars(kind))
            self.assertIsInstance(vars(kind)["word"], property)
            self.assertEqual(kind.__module__, "ownchute.verdicts")

    def test_open_verdict_shows_nothing(self):
        for plant in drawn_plants(102, 9):
            self.assertIs(Verdict().holds(plant), False)
            self.assertIs(Verdict().holds(plant=plant, strict=True), False)

    def test_plant_with_one_place_for_a_parcel(self):
        plant = Plant(Line(1, slips=(0, 1)), Tracker(1))
        places = [((0,), ((),), -2, (), 0), ((1,), ((0,),), -2, (), 1), ((0,), ((),), -2, (), 1)]
        for strict in (False, True):
            verdict = judged(plant, strict=strict)
            self.assertIs(type(verdict), Safe)
            self.assertEqual(shown(verdict.places()), shown(places))

    def test_parcel_that_is_missed(self):
        plant = Plant(Line(1, words=["missed"]), Tracker(1, empty="blank"))
        self.assertEqual(judged(plant).word, "safe")
        self.assertEqual(len(judged(plant, strict=True).flow()), 2)
        for flow in ([ONCE, ("pass", 1, "missed")], [("come", "missed"), ("pass", 1, "once")]):
            self.assertIs(Astray(flow).holds(plant), False)
            self.assertIs(Astray(flow).holds(plant, strict=True), True)

    def test_queue_that_is_too_short(self):
        plant = Plant(Line(2, words=[]), Tracker(1))
        self.assertEqual(judged(plant).flow(), [ONCE, ONCE, ("pass", 1, "once")])
        plant = Plant(Line(2, words=[]), Tracker(2))
        self.assertEqual(judged(plant, strict=True).word, "safe")

    def test_record_that_stays_behind(self):
        flow = [ONCE, ("pass", 1, "missed"), ONCE, ("pass", 1, "once")]
        plant = Plant(Line(1, words=["missed"]), Tracker(2))
        self.assertEqual(len(judged(plant).flow()), 4)
        self.assertIs(Astray(flow).holds(plant), True)
        self.assertIs(judged(plant, strict=True).holds(plant), False)
        self.assertIs(judged(plant, strict=True).holds(plant, strict=True), True)

    def test_defaults(self):
        plant = GRAPHS[0].plant
        self.assertEqual(judged(plant).word, judged(plant=plant, strict=False, most=5000).word)
        self.assertRaises(TypeError, judged, plant, False)


class Judged(unittest.TestCase):

    def test_small_plants(self):
        words = set()
        for graph in GRAPHS:
            for strict in (False, True):
                self.check(graph, strict)
                words.add((judged(graph.plant, strict=strict).word, strict))
        self.assertEqual(len(words), 4)
        self.assertEqual({len(graph.plant.line) for graph in GRAPHS}, {1, 2, 3})

    def check(self, graph, strict):
        verdict = judged(graph.plant, strict=strict)
        shortest = graph.shortest_astray(strict)
        if shortest is None:
            self.assertIs(type(verdict), Safe)
            self.assertEqual(shown(verdict.places()), shown(graph.places))
            self.assertEqual(verdict.places(), list(met_places(graph.plant)))
        else:
            self.assertIs(type(verdict), Astray)
            self.assertEqual(len(verdict.flow()), shortest)
            self.assertIs(astray_holds(graph.plant, verdict.flow(), strict), True)
        self.assertIs(verdict.holds(graph.plant, strict=strict), True)
        self.assertEqual(verdict.word, "safe" if shortest is None else "astray")
        self.assertEqual(repr(verdict), f"Verdict({verdict.word})")

    def test_strict_is_about_own_alone(self):
        for graph in GRAPHS:
            for strict in (False, True):
                verdict = judged(graph.plant, strict=strict)
                if isinstance(verdict, Astray):
                    words = words_of(graph.plant, verdict.flow())
                    self.assertIn(words[-1], ("other", "on") if strict else ("other",))
                    self.assertFalse({"other", "on" if strict else "other"} & set(words[:-1]))

    def test_texts(self):
        for graph in GRAPHS:
            again = Plant.read(graph.plant.text)
            for strict in (False, True):
                one, other = judged(graph.plant, strict=strict), judged(again, strict=strict)
                self.assertEqual(one.word, other.word)
                if isinstance(one, Astray):
                    self.assertEqual(len(one.flow()), len(other.flow()))
                    self.assertEqual(graph.shortest_astray(strict), len(other.flow()))
                else:
                    self.assertEqual(one.places(), other.places())
        for text, word, strictly in (
                ("belts 1 slips 1 4 missed rooms 1 seek 0 none first clear", "safe", "astray"),
                ("belts 1 slips 1 4 missed rooms 2 seek 0 none first clear", "astray", "astray"),
                ("belts 1 slips 0 4 missed rooms 1 seek 0 none first clear", "safe", "safe"),
                ("belts 1 slips 1 4 rooms 1 seek 0 none first clear", "safe", "safe"),
                ("belts 2 slips 1 4 rooms 1 seek 0 none first clear", "astray", "astray"),
                ("belts 1 slips 3 1 twice rooms 1 seek 0 none first clear", "safe", "safe")):
            self.assertEqual(judged(Plant.read(text)).word, word, text)
            self.assertEqual(judged(Plant.read(text), strict=True).word, strictly, text)

    def test_wrong_numbers(self):
        for value in wrong_numbers(1, 20000)[:2] + [0, -1, 20001, 10 ** 29, True, False, None, "1", "", (), [], (1,)]:
            assert_refused(self, InvalidNumber, value, judged, PLANT, most=value)
        for value in drawn_values(103, 100):
            if isinstance(value, bool) or not isinstance(value, int) or not 1 <= value <= 20000:
                assert_refused(self, InvalidNumber, value, judged, PLANT, strict=True, most=value)


class Chutes(unittest.TestCase):
    """Promise 26: verdicts against runs whose parcels have chutes."""

    def test_astray_parcel_goes_down_another_chute(self):
        checked = 0
        for plant in drawn_plants(104, 90):
            verdict = verdict_of(plant, False)
            if isinstance(verdict, Astray):
                self.check_astray(plant, verdict.flow())
                checked += 1
        self.assertGreater(checked, 40)

    def check_astray(self, plant, flow):
        run = Run(plant)
        run.do(*flow)
        *rows, (parcel, record, _) = list(run.sendings())
        self.assertNotEqual(parcel, record)
        self.assertTrue(all(label == sent or sent is None for label, sent, _ in rows))
        run, label = Run(plant), 0
        for deed in flow:
            done(run, deed, 4 if label == record else 7)
            label += deed[0] == "come"
        self.assertEqual(run.astray(), [parcel])
        self.assertEqual(list(run.sendings())[-1], (parcel, record, 4))

    def test_runs_of_safe_plants(self):
        source = random.Random(105)
        checked = 0
        for plant in drawn_plants(105, 90):
            for strict in (False, True):
                if isinstance(verdict_of(plant, strict), Safe):
                    self.check_safe(plant, source, strict)
                    checked += 1
        self.assertGreater(checked, 30)

    def check_safe(self, plant, source, strict):
        for _ in range(4):
            run = Run(plant)
            for deed in drawn_flow(source, plant, 40):
                run.do(deed, chute=source.randint(1, 9))
            self.assertEqual(run.astray(), [])
            if strict:
                self.assertTrue(all(label == record for label, record, _ in run.sendings()))


class SafePapers(unittest.TestCase):
    """Promise 27: lists of places that show, or do not show, that a plant is safe."""

    def check(self, plant, places):
        for strict in (False, True):
            expected = safe_holds(plant, places, strict)
            self.assertIs(Safe(places).holds(plant, strict=strict), expected)
            self.assertIs(Safe(tuple(places)).holds(strict=strict, plant=plant), expected)
        return expected

    def graphs(self, word):
        return [graph for graph in GRAPHS if judged(graph.plant).word == word and len(graph.places) < 70]

    def test_left_out_doubled_and_in_another_order(self):
        for graph in self.graphs("safe")[:15]:
            places = graph.places
            self.assertIs(Safe(places).holds(graph.plant), True)
            for bent in without_one(places):
                self.assertIs(Safe(bent).holds(graph.plant), False)
            for bent in (places + places, places[::-1], with_one_twice(places)[-1], with_two_exchanged(places)[0]):
                self.assertIs(Safe(bent).holds(graph.plant), True)
            for cut in range(len(places)):
                self.assertIs(Safe(places[:cut]).holds(graph.plant), False)

    def test_places_added_or_bent(self):
        source = random.Random(106)
        held = 0
        for graph in self.graphs("safe")[:12]:
            for place in source.sample(graph.places, min(3, len(graph.places))):
                for value in source.sample(bent_places(place), 12):
                    held += self.check(graph.plant, graph.places + [value])
                    at = graph.places.index(place)
                    held += self.check(graph.plant, graph.places[:at] + [value] + graph.places[at + 1:])
        self.assertGreater(held, 0)

    def test_further_places_and_all_behind_them(self):
        held = 0
        for graph in self.graphs("safe")[:15]:
            for bent in bent_places(graph.places[-1]):
                if is_place(graph.plant, bent):
                    held += self.check(graph.plant, closed(graph.plant, graph.places + [bent]))
        self.assertGreater(held, 5)

    def test_values_of_other_kinds(self):
        graph = self.graphs("safe")[0]
        for value in KINDS:
            for bent in with_values(graph.places[:3], [value]) + [graph.places + [value], [value] + graph.places]:
                for strict in (False, True):
                    self.assertIs(Safe(bent).holds(graph.plant, strict=strict), False)
            self.assertIs(Safe([value]).holds(graph.plant), False)
        self.assertIs(Safe([]).holds(graph.plant), False)

    def test_numbers_are_not_booleans(self):
        plant = Plant(Line(1, slips=(0, 1)), Tracker(1))
        places = judged(plant).places()
        self.assertIs(Safe(places).holds(plant), True)
        bent = ((0,), ((),), -2, (), False)
        self.assertEqual(bent, places[0])
        self.assertIs(Safe([bent] + places[1:]).holds(plant), False)
        self.assertIs(Safe(places + [bent]).holds(plant), False)
        self.assertIs(Safe(places + [((True,), ((0,),), -2, (), 1)]).holds(plant), False)

    def test_places_of_plants_that_are_not_safe(self):
        for graph in self.graphs("astray")[:30]:
            self.assertIs(Safe(graph.places).holds(graph.plant), False)
            self.assertIs(Safe(graph.places).holds(graph.plant, strict=True), False)

    def test_safe_but_not_strictly(self):
        graphs = [graph for graph in self.graphs("safe") if judged(graph.plant, strict=True).word == "astray"]
        self.assertTrue(graphs)
        for graph in graphs:
            self.assertIs(Safe(graph.places).holds(graph.plant), True)
            self.assertIs(Safe(graph.places).holds(graph.plant, strict=True), False)

    def test_one_paper_for_several_plants(self):
        held = 0
        graphs = self.graphs("safe")[:25]
        for one, other in itertools.product(graphs, repeat=2):
            expected = safe_holds(other.plant, one.places, False)
            self.assertIs(Safe(one.places).holds(other.plant), expected)
            held += expected and one is not other
        self.assertGreater(held, 0)

    def test_list_is_copied_and_new(self):
        graph = self.graphs("safe")[0]
        places = list(graph.places)
        paper = Safe(places=places)
        places.clear()
        for _ in range(2):
            self.assertIs(paper.holds(graph.plant), True)
            self.assertIs(type(paper.places()), list)
            paper.places().clear()
        self.assertEqual(paper.places(), graph.places)
        inner = [1, [2]]
        paper = Safe((inner, (inner,)))
        inner[1].append(3)
        paper.places()[0].append(4)
        paper.places()[1][0].append(4)
        self.assertEqual(paper.places(), [[1, [2]], ([1, [2]],)])


class AstrayPapers(unittest.TestCase):
    """Promise 28: flows that show, or do not show, that a plant is not safe."""

    def test_bent_flows(self):
        source = random.Random(107)
        held = 0
        for plant in drawn_plants(107, 60):
            for strict in (False, True):
                verdict = verdict_of(plant, strict)
                if isinstance(verdict, Astray):
                    for flow in bent_flows(source, deeds_of(plant), verdict.flow(), 60):
                        held += self.check(plant, flow)
        self.assertGreater(held, 300)

    def check(self, plant, flow):
        expected = [astray_holds(plant, flow, strict) for strict in (False, True)]
        self.assertIs(Astray(flow).holds(plant), expected[0])
        self.assertIs(Astray(tuple(flow)).holds(plant=plant, strict=True), expected[1])
        return expected[1]

    def test_flows_of_plants_with_any_last_word(self):
        source = random.Random(108)
        for plant in drawn_plants(108, 60):
            flow = drawn_flow(source, plant, 25)
            for at in range(len(flow) + 1):
                self.check(plant, flow[:at])

    def test_values_of_other_kinds(self):
        plant = Plant(Line(2, words=[]), Tracker(1))
        flow = judged(plant).flow()
        for value in KINDS:
            for bent in with_values(flow, [value]) + [[value]]:
                self.assertIs(Astray(bent).holds(plant), False)
                self.assertIs(Astray(bent).holds(plant, strict=True), False)
        for at in range(3):
            bent = list(flow)
            bent[at] = list(bent[at])
            self.assertIs(Astray(bent).holds(plant), False)
        self.assertIs(Astray([ONCE, ONCE, ("pass", True, "once")]).holds(plant), False)

    def test_empty_list_shows_nothing(self):
        for plant in drawn_plants(109, 9):
            self.assertIs(Astray([]).holds(plant), False)
            self.assertIs(Astray(()).holds(plant, strict=True), False)

    def test_list_is_copied_and_new(self):
        plant = Plant(Line(2, words=[]), Tracker(1))
        flow = judged(plant).flow()
        paper = Astray(flow=flow)
        flow.clear()
        for _ in range(2):
            self.assertIs(paper.holds(plant), True)
            self.assertIs(type(paper.flow()), list)
            paper.flow().clear()
        self.assertEqual(len(paper.flow()), 3)
        inner = [1, [2]]
        paper = Astray([inner, (inner,)])
        inner[1].append(3)
        paper.flow()[0].append(4)
        self.assertEqual(paper.flow(), [[1, [2]], ([1, [2]],)])


class FewerSlips(unittest.TestCase):
    """Promise 30: less that can go wrong makes no plant less safe."""

    def milder(self, line):
        most, among = line.slips
        lines = [line.changed(slips=(fewer, among)) for fewer in range(most)]
        lines += [line.changed(words=words) for words in without_one(line.words())]
        lines += [line.changed(stretch=stretch) for stretch in (1, 2, 4) if line.stretch is None]
        return lines + [line.changed(stretch=stretch) for stretch in range(1, line.stretch or 1)][-2:]

    def test_milder_lines(self):
        checked = 0
        for graph in GRAPHS:
            for strict in (False, True):
                if judged(graph.plant, strict=strict).word == "safe":
                    for line in self.milder(graph.plant.line):
                        plant = Plant(line, graph.plant.tracker)
                        self.assertNotEqual(getattr(verdict_of(plant, strict), "word", "safe"), "astray")
                        checked += 1
        self.assertGreater(checked, 100)

    def test_strictly_safe_plants_are_safe(self):
        checked = 0
        for graph in GRAPHS:
            if judged(graph.plant, strict=True).word == "safe":
                self.assertEqual(judged(graph.plant).word, "safe")
                self.assertIs(judged(graph.plant, strict=True).holds(graph.plant), True)
                checked += 1
        self.assertGreater(checked, 10)


class NoSlips(unittest.TestCase):
    """Promise 57: plants without slips and with room for the records of all parcels."""

    def plants(self):
        source = random.Random(110)
        for many, turn in itertools.product((1, 2, 3), range(14)):
            belts = [source.randint(1, 3 if many < 3 else 2) for _ in range(many)]
            slips, words = source.choice((((0, source.randint(1, 6)), ("missed", "twice")), ((2, 3), ())))
            line = Line(*belts, scans=[point for point in range(1, many) if source.random() < 0.5], slips=slips,
                        words=words, stretch=source.choice((None, 1, 3)))
            rooms = [source.randint(belt, 4) for belt in belts]
            yield Plant(line, drawn_tracker(source, many).changed(rooms=rooms))

    def test_all_is_right(self):
        for plant in self.plants():
            verdict = judged(plant, strict=True)
            self.assertIs(type(verdict), Safe)
            self.assertIs(verdict.holds(plant, strict=True), True)
            self.assertEqual(settled(plant), sorted(verdict.places()))
            self.assertEqual(set(heights(plant).values()), {0})
            paper = mended(plant)
            self.assertIs(type(paper), Mends)
            self.assertEqual((paper.comings, paper.flow()), (0, []))
            self.assertEqual(paper.rows(), [(place, 0) for place in verdict.places()])
            lag = lagged(plant)
            self.assertIs(type(lag), Lag)
            self.assertEqual(lag.number, 0)
            self.assertIs(lag.holds(plant), True)


class RunsBesideVerdicts(unittest.TestCase):
    """Promise 65: two runs of one plant and a verdict of it stay apart."""

    def test_apart(self):
        source = random.Random(111)
        for graph in GRAPHS[:25]:
            plant, text = graph.plant, graph.plant.text
            verdict = judged(plant)
            shown_verdict = shown(verdict.places() if isinstance(verdict, Safe) else verdict.flow())
            runs, models = [Run(plant), Run(plant)], [[Model(plant)], [Model(plant)]]
            for _ in range(30):
                self.turn(source, plant, runs, models)
            again = judged(plant)
            for one in (verdict, again):
                told_again = shown(one.places() if isinstance(one, Safe) else one.flow())
                self.assertEqual(told_again, shown_verdict)
                self.assertIs(one.holds(plant), True)
            self.assertEqual(list(met_places(plant)), graph.places)
            self.assertEqual(plant.text, text)

    def turn(self, source, plant, runs, models):
        at = source.randrange(2)
        run, model = runs[at], models[at][-1]
        other = shown(told(runs[1 - at]))
        choice = source.randrange(4)
        if choice < 2:
            deed = source.choice(model.deeds())
            run.do(deed)
            models[at].append(model_of_flow(plant, model.flow + [deed]))
        elif choice == 2 and len(models[at]) > 1:
            run.undo()
            models[at].pop()
        else:
            self.refuse(run, model, plant)
        self.assertEqual(shown(told(runs[1 - at])), other)
        self.assertEqual(run.place(), models[at][-1].place())
        self.assertEqual(deeds_at(plant, run.place()), models[at][-1].deeds())

    def refuse(self, run, model, plant):
        impossible = [deed for deed in deeds_of(plant) if not model.possible(deed)]
        before = shown(told(run))
        for deed in impossible[:2]:
            assert_refused(self, NotNow, 0, run.do, deed)
        if run.history()[0] == 0:
            assert_refused(self, NothingLeft, None, run.undo)
        elif run.history()[1]:
            run.redo()
            run.undo()
        self.assertEqual(shown(told(run)), before)
        self.assertEqual(first_place(plant), Model(plant).place())


if __name__ == "__main__":
    unittest.main()
