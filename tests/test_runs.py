"""Promises 12 to 14 and 17: deeds of runs, one by one and several at once; wrong calls; what is sent."""

import copy
import inspect
import random
import unittest

from ownchute.errors import InvalidChute, InvalidDeed, InvalidPoint, InvalidWord, NotNow
from ownchute.lines import Line
from ownchute.plants import Plant
from ownchute.runs import Run
from ownchute.trackers import Tracker
from tests.drawn import (ANY_VALUES, assert_refused, drawn_deed, drawn_flow, drawn_plants, drawn_values, shown, without,
                         wrong_numbers)
from tests.model import SIGHTS, Model, deeds_of
from tests.runs_checked import assert_told, done, played, run_of, told

TWO = Plant(Line(2, 2, slips=(1, 2), stretch=3), Tracker(2, 2))
CHUTES = range(1, 10)


class Deeds(unittest.TestCase):

    def test_many_deeds(self):
        for at, plant in enumerate(drawn_plants(61, 90)):
            played(self, plant, at, 70)

    def test_deeds_that_are_not_possible(self):
        source = random.Random(62)
        for plant in drawn_plants(62, 60):
            run, model = Run(plant), Model(plant)
            for _ in range(20):
                before = told(run)
                for deed in deeds_of(plant):
                    if not model.possible(deed):
                        assert_refused(self, NotNow, 0, done, run, deed, source.randint(1, 9))
                        self.assertEqual(told(run), before)
                deed = drawn_deed(source, model)
                model.do(deed, 2)
                done(run, deed, 2)
                assert_told(self, run, model, (len(model.flow), 0))

    def test_literal_run(self):
        run = Run(TWO)
        self.assertEqual((run.belts(), run.queues(), run.swap, run.place()), (
            [[], []], [[], []], None, ((0, 0), ((), ()), -2, (0,), 0)))
        self.assertEqual(run.come(7), 0)
        self.assertEqual(run.come(8, sight="swapped"), 1)
        self.assertEqual((run.belts(), run.queues(), run.swap), ([[0, 1], []], [[0], []], 1))
        self.assertIsNone(run.pass_on(1))
        self.assertEqual(run.come(9), 2)
        self.assertEqual((run.belts(), run.queues(), run.swap), ([[1, 2], [0]], [[2, 1], [0]], None))
        self.assertEqual(run.pass_on(2), 7)
        self.assertIsNone(run.pass_on(1))
        self.assertIsNone(run.pass_on(1))
        self.assertEqual(run.pass_on(2), 9)
        self.assertIsNone(run.pass_on(2, sight="missed"))
        self.assertEqual((run.belts(), run.queues(), run.swap), ([[], []], [[], [1]], None))
        self.assertIsNone(run.wait())
        self.assertEqual(run.queues(), [[], []])
        self.assertEqual(run.flow(), [
            ("come", "once"), ("come", "swapped"), ("pass", 1, "once"), ("come", "once"), ("pass", 2, "once"),
            ("pass", 1, "once"), ("pass", 1, "once"), ("pass", 2, "once"), ("pass", 2, "missed"), ("pause",)])
        self.assertEqual(list(run.sendings()), [(0, 0, 7), (1, 2, 9), (2, None, None)])
        self.assertEqual((run.astray(), len(run), repr(run), run.history()), ([1], 3, "Run(3 parcels)", (10, 0)))

    def test_rooms_of_belts(self):
        run = run_of(TWO, [("come", "once")] * 2)
        assert_refused(self, NotNow, 0, run.come, 1)
        run.pass_on(1)
        run.come(1)
        run.pass_on(1)
        assert_refused(self, NotNow, 0, run.pass_on, 1)
        run.pass_on(2)
        run.pass_on(1)
        self.assertEqual(run.belts(), [[], [1, 2]])
        assert_refused(self, NotNow, 0, run.pass_on, 1)

    def test_empty_belts(self):
        run = Run(TWO)
        for point in (1, 2):
            for sight in SIGHTS:
                assert_refused(self, NotNow, 0, run.pass_on, point, sight=sight)
        run.come(1)
        assert_refused(self, NotNow, 0, run.pass_on, 2)
        run.pass_on(1)
        assert_refused(self, NotNow, 0, run.pass_on, 1)

    def test_pauses(self):
        run = Run(TWO)
        assert_refused(self, NotNow, 0, run.wait)
        run.come(1)
        assert_refused(self, NotNow, 0, run.wait)
        run.pass_on(1)
        assert_refused(self, NotNow, 0, run.wait)
        run.pass_on(2)
        run.wait()
        assert_refused(self, NotNow, 0, run.wait)

    def test_stretch(self):
        plant = TWO.with_offers(("stretch", 2))
        once = [("come", "once"), ("pass", 1, "once"), ("pass", 2, "once")]
        run = run_of(plant, once * 2)
        assert_refused(self, NotNow, 0, run.come, 1)
        run.wait()
        run.do(*once * 2)
        assert_refused(self, NotNow, 0, run.come, 1)
        run = run_of(TWO.with_offers(("stretch", None)), once * 40)
        self.assertEqual((len(run), run.come(1)), (40, 40))

    def test_slip_words_of_the_line(self):
        for words in ((), ("missed",), ("twice",), ("swapped",), ("missed", "swapped")):
            run = Run(Plant(Line(2, slips=(3, 4), words=words), Tracker(2)))
            for sight in SIGHTS[1:]:
                if sight in words:
                    run.come(1, sight=sight)
                    run.undo()
                else:
                    assert_refused(self, NotNow, 0, run.come, 1, sight=sight)
            run.come(1)
            for sight in SIGHTS[1:]:
                if sight in words and sight != "swapped":
                    run.pass_on(1, sight=sight)
                    run.undo()
                else:
                    assert_refused(self, NotNow, 0, run.pass_on, 1, sight=sight)

    def test_lists_are_new(self):
        run = run_of(TWO, [("come", "once"), ("pass", 1, "once"), ("pass", 2, "once"), ("come", "once")])
        before = told(run)
        for method in (run.belts, run.queues, run.flow, run.astray):
            self.assertIs(type(method()), list)
        run.belts()[0].append(9)
        run.belts().clear()
        run.queues()[1].append(9)
        run.queues()[0].clear()
        run.queues().clear()
        run.flow().clear()
        run.astray().append(1)
        list(run.sendings()).clear()
        self.assertEqual(told(run), before)

    def test_plant(self):
        for plant in drawn_plants(63, 9):
            self.assertEqual(Run(plant).plant, plant)
            self.assertEqual(Run(plant=plant).plant, plant)

    def test_members_are_defined_in_the_class(self):
        for name in ("__init__", "__eq__", "__len__", "__repr__", "come", "pass_on", "wait", "do", "belts", "queues",
                     "place", "flow", "sendings", "astray", "undo", "redo", "history", "twin"):
            self.assertIn(name, vars(Run))
        for name in ("plant", "swap", "busy"):
            self.assertIsInstance(vars(Run)[name], property)
        self.assertEqual(Run.__module__, "ownchute.runs")


class WrongCalls(unittest.TestCase):

    def runs(self):
        """Return runs at which a come is possible and not, a pass at point 1 is possible and not."""
        return [Run(TWO), run_of(TWO, [("come", "once")] * 2), run_of(TWO, [("come", "once"), ("pass", 1, "once")]),
                run_of(TWO, [("come", "swapped")])]

    def test_wrong_chutes(self):
        values = wrong_numbers(1, 9) + drawn_values(64, 40)
        values = [value for value in values if isinstance(value, bool) or value not in CHUTES]
        for run in self.runs():
            before = told(run)
            for value in values:
                assert_refused(self, InvalidChute, value, run.come, value)
                assert_refused(self, InvalidChute, value, run.come, value, sight="never")
                assert_refused(self, InvalidChute, value, run.come, chute=value, sight=None)
                assert_refused(self, InvalidChute, value, run.do, chute=value)
                assert_refused(self, InvalidChute, value, run.do, "never", chute=value)
                assert_refused(self, InvalidChute, value, run.do, ("pause",), ("come", "once"), chute=value)
            self.assertEqual(told(run), before)

    def test_wrong_sights(self):
        values = without(SIGHTS) + [value for value in drawn_values(65, 40) if value != "missed"]
        for run in self.runs():
            before = told(run)
            for value in values:
                assert_refused(self, InvalidWord, value, run.come, 1, sight=value)
                assert_refused(self, InvalidWord, value, run.pass_on, 1, sight=value)
                assert_refused(self, InvalidWord, value, run.pass_on, 2, sight=value)
            self.assertEqual(told(run), before)

    def test_wrong_points(self):
        for many in (1, 2, 3):
            run = Run(Plant(Line(*[1] * many), Tracker(*[1] * many)))
            run.come(1)
            before = told(run)
            for value in wrong_numbers(1, many):
                assert_refused(self, InvalidPoint, value, run.pass_on, value)
                assert_refused(self, InvalidPoint, value, run.pass_on, value, sight="never")
                assert_refused(self, InvalidPoint, value, run.pass_on, point=value, sight="swapped")
            self.assertEqual(told(run), before)

    def test_swapped_is_a_sight_but_no_pass_has_it(self):
        run = run_of(TWO, [("come", "once"), ("pass", 1, "once"), ("come", "once")])
        for point in (1, 2):
            assert_refused(self, NotNow, 0, run.pass_on, point, sight="swapped")
            assert_refused(self, NotNow, 0, run.do, ("pass", point, "swapped"))

    def test_invalid_deed_ahead_of_not_now(self):
        values = list(ANY_VALUES) + drawn_values(66, 60) + [
            ["pause"], ["come", "once"], ("come",), ("come", "once", 1), ("pass", 3, "once"), ("pass", 0, "once"),
            ("pass", True, "once"), ("pass", 1, "never"), ("pause", "once"), ("come", 1, "once"), "come once"]
        for run in self.runs():
            before = told(run)
            for value in values:
                for at in range(3):
                    deeds = [("pass", 2, "swapped")] * at + [value, ("pass", 2, "swapped"), None]
                    assert_refused(self, InvalidDeed, at, run.do, *deeds)
                    assert_refused(self, InvalidDeed, at, run.do, *deeds, chute=9)
                assert_refused(self, InvalidDeed, 1, run.do, ("come", "once"), value)
            self.assertEqual(told(run), before)

    def test_right_edges(self):
        for chute in (1, 9):
            run = Run(TWO)
            self.assertEqual(run.come(chute), 0)
            run.do(("come", "once"), chute=chute)
            self.assertEqual(len(run), 2)

    def test_keywords(self):
        run = Run(TWO)
        self.assertRaises(TypeError, run.come, 1, "once")
        self.assertEqual(run.come(chute=3, sight="once"), 0)
        self.assertRaises(TypeError, run.pass_on, 1, "once")
        self.assertIsNone(run.pass_on(point=1, sight="twice"))
        self.assertEqual(run.flow(), [("come", "once"), ("pass", 1, "twice")])


class SeveralDeeds(unittest.TestCase):

    def test_drawn_deeds_at_once(self):
        source = random.Random(67)
        for plant in drawn_plants(67, 60):
            run, model = Run(plant), Model(plant)
            for turn in range(10):
                chute, before = source.randint(1, 9), len(model.flow)
                for _ in range(source.randint(0, 9)):
                    model.do(drawn_deed(source, model), chute)
                self.assertIsNone(run.do(*model.flow[before:], chute=chute))
                assert_told(self, run, model, (turn + 1, 0))

    def test_chute_if_nothing_is_said(self):
        run = Run(TWO)
        run.do(("come", "once"), ("pass", 1, "once"), ("pass", 2, "once"))
        self.assertEqual(list(run.sendings()), [(0, 0, 1)])

    def test_one_step_a_call(self):
        run = Run(TWO)
        for many, deeds in enumerate([[("come", "once")] * 2, [], [("pass", 1, "once")] * 2, [], []], 1):
            self.assertIsNone(run.do(*deeds))
            self.assertEqual(run.history(), (many, 0))
        self.assertEqual(run.flow(), [("come", "once")] * 2 + [("pass", 1, "once")] * 2)
        run.undo()
        run.undo()
        self.assertEqual(len(run.flow()), 4)
        run.undo()
        self.assertEqual(run.flow(), [("come", "once")] * 2)

    def test_not_now_takes_back_what_is_done_by_halves(self):
        source = random.Random(68)
        for plant in drawn_plants(68, 60):
            run, model = played(self, plant, 68, source.randint(0, 12))
            run.do()
            run.undo()
            before, other = told(run), run.twin()
            for _ in range(8):
                half = copy.deepcopy(model)
                for _ in range(source.randint(0, 6)):
                    half.do(drawn_deed(source, half), 5)
                deeds = half.flow[len(model.flow):]
                wrong = source.choice([deed for deed in deeds_of(plant) if not half.possible(deed)])
                rest = source.choices(deeds_of(plant), k=3)
                assert_refused(self, NotNow, len(deeds), run.do, *deeds, wrong, *rest, chute=5)
                self.assertEqual(told(run), before)
                self.assertTrue(run == other)
                self.assertIs(run.busy, False)

    def test_chutes_of_all_parcels_that_came_by_one_call(self):
        plant = Plant(Line(3), Tracker(3))
        for chute in CHUTES:
            run = Run(plant)
            run.come(10 - chute)
            run.do(("come", "once"), ("come", "once"), ("pass", 1, "once"), chute=chute)
            run.do(("come", "once"), ("pass", 1, "once"), ("pass", 1, "once"), ("pass", 1, "once"), chute=3)
            self.assertEqual(list(run.sendings()), [(0, 0, 10 - chute), (1, 1, chute), (2, 2, chute), (3, 3, 3)])

    def test_parcel_sent_down_the_chute_of_a_later_one_of_the_same_call(self):
        run = Run(Plant(Line(2), Tracker(2)))
        run.come(4, sight="missed")
        run.do(("come", "once"), ("pass", 1, "once"), chute=7)
        self.assertEqual(list(run.sendings()), [(0, 1, 7)])
        self.assertEqual(run.astray(), [0])

    def test_a_hundred_and_more_deeds_at_once(self):
        flow = drawn_flow(random.Random(69), TWO, 300)
        run = Run(TWO)
        run.do(*flow, chute=2)
        self.assertEqual((run.flow(), run.history(), run.busy), (flow, (1, 0), False))

    def test_busy_is_false_behind_each_call(self):
        run = Run(TWO)
        calls = [lambda: run.come(1), lambda: run.come(0), lambda: run.pass_on(2), lambda: run.pass_on(1), run.wait,
                 lambda: run.do(("come", "once")), lambda: run.do(("pause",)), lambda: run.do(None), run.undo, run.redo,
                 lambda: run.pass_on(2), run.do, run.redo, lambda: run.come(1, sight="never")]
        self.assertIs(run.busy, False)
        for call in calls:
            try:
                call()
            except (ValueError, IndexError):
                pass
            self.assertIs(run.busy, False)

    def test_busy_while_deeds_are_being_done(self):
        """The deeds are watched from a number whose comparisons look at the run."""
        seen = []

        class Watching(int):
            def __eq__(self, other):
                seen.append(run.busy)
                return int(self) == other

            __hash__ = int.__hash__

        run = run_of(TWO, [("come", "once")])
        run.do(("pass", Watching(1), "once"))
        self.assertIn(True, seen)
        self.assertIs(run.busy, False)


class Sendings(unittest.TestCase):

    def test_returned_values(self):
        for at, plant in enumerate(drawn_plants(70, 40)):
            run, model = played(self, plant, at, 60)
            self.assertEqual(shown(list(run.sendings())), shown(model.sent))
            self.assertEqual(shown(run.astray()), shown(model.astray()))

    def test_passes_ahead_of_the_last_point_return_none(self):
        run = run_of(Plant(Line(2, 2, 2), Tracker(2, 2, 2)), [("come", "once")], [6])
        self.assertIsNone(run.pass_on(1))
        self.assertIsNone(run.pass_on(2))
        self.assertEqual(run.pass_on(3), 6)

    def test_twice_gives_the_record_behind_away(self):
        run = run_of(Plant(Line(3), Tracker(3)), [("come", "once")] * 3, [4, 5, 6])
        self.assertEqual(run.pass_on(1, sight="twice"), 4)
        self.assertEqual(run.queues(), [[2]])
        self.assertEqual(run.pass_on(1), 6)
        self.assertIsNone(run.pass_on(1))
        self.assertEqual(list(run.sendings()), [(0, 0, 4), (1, 2, 6), (2, None, None)])
        self.assertEqual(run.astray(), [1])

    def test_twice_with_one_record_or_none(self):
        for empty in ("blank", "none"):
            plant = Plant(Line(2, slips=(3, 4)), Tracker(2, empty=empty))
            run = run_of(plant, [("come", "missed")] + [("come", "once")], [2, 3])
            self.assertEqual(run.pass_on(1, sight="twice"), 3)
            self.assertEqual(run.queues(), [[]])
            self.assertIsNone(run.pass_on(1, sight="twice"))
            self.assertEqual(list(run.sendings()), [(0, 1, 3), (1, None, None)])

    def test_twice_at_the_beginning(self):
        run = run_of(Plant(Line(2), Tracker(3)), [("come", "twice"), ("come", "once")], [2, 3])
        self.assertEqual(run.queues(), [[0, 0, 1]])
        self.assertEqual([run.pass_on(1), run.pass_on(1)], [2, 2])
        self.assertEqual(run.come(4), 2)
        self.assertEqual(run.queues(), [[1, 2]])
        self.assertEqual(run.pass_on(1), 3)
        self.assertEqual(list(run.sendings()), [(0, 0, 2), (1, 0, 2), (2, 1, 3)])
        self.assertEqual(run.astray(), [1, 2])

    def test_the_chute_of_another_parcel_may_be_the_own_one(self):
        run = run_of(Plant(Line(2), Tracker(3)), [("come", "twice"), ("come", "once")] + [("pass", 1, "once")] * 2,
                     [2, 2])
        self.assertEqual(list(run.sendings()), [(0, 0, 2), (1, 0, 2)])
        self.assertEqual(run.astray(), [])

    def test_on_is_not_astray(self):
        run = run_of(Plant(Line(2), Tracker(2)), [("come", "once"), ("pass", 1, "missed")], [2])
        self.assertEqual((list(run.sendings()), run.astray()), ([(0, None, None)], []))

    def test_do_with_a_chute_by_name(self):
        for chute in CHUTES:
            run = Run(TWO)
            run.do(("come", "once"), chute=chute)
            run.do(("pass", 1, "once"), ("pass", 2, "once"), chute=10 - chute)
            self.assertEqual(list(run.sendings()), [(0, 0, chute)])

    def test_sendings_is_a_generator(self):
        run = run_of(TWO, [("come", "once"), ("pass", 1, "once"), ("pass", 2, "once")] * 2, [3, 4])
        self.assertTrue(inspect.isgenerator(run.sendings()))
        one, other = run.sendings(), run.sendings()
        self.assertEqual([next(one), next(other), next(other), next(one)],
                         [(0, 0, 3), (0, 0, 3), (1, 1, 4), (1, 1, 4)])
        self.assertIsNone(next(one, None))
        self.assertEqual(list(Run(TWO).sendings()), [])


if __name__ == "__main__":
    unittest.main()
