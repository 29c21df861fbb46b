"""Promises 15, 16 and 66: undo and redo, twins and equality of runs, chutes that differ from step to step."""

import random
import unittest

from ownchute.errors import InvalidChute, InvalidDeed, InvalidPoint, InvalidWord, NothingLeft, NotNow
from ownchute.lines import Line
from ownchute.plants import Plant
from ownchute.runs import Run
from ownchute.trackers import Tracker
from tests.drawn import ANY_VALUES, assert_refused, drawn_deed, drawn_plant, drawn_plants, shown
from tests.model import Model, deeds_of
from tests.runs_checked import assert_told, done, run_of, told

ONE = Plant(Line(3), Tracker(4))
TWO = Plant(Line(2, 2, slips=(1, 2), stretch=3), Tracker(2, 2))


class Played:
    """A run and what it has to tell behind each of its steps, so that steps can be taken back and done again."""

    def __init__(self, plant):
        self.run = Run(plant)
        self.steps = []
        self.undone = []

    def model(self):
        model = Model(self.run.plant)
        for deeds, chute in self.steps:
            for deed in deeds:
                model.do(deed, chute)
        return model

    def check(self, case):
        assert_told(case, self.run, self.model(), (len(self.steps), len(self.undone)))

    def step(self, source):
        """Do some drawn deeds as one step, by one of the calls."""
        model = self.model()
        before, chute = len(model.flow), source.randint(1, 9)
        for _ in range(source.choice((0, 1, 1, 1, 2, 5))):
            model.do(drawn_deed(source, model), chute)
        deeds = model.flow[before:]
        if len(deeds) == 1 and source.random() < 0.7:
            done(self.run, deeds[0], chute)
        else:
            self.run.do(*deeds, chute=chute)
        self.steps.append((deeds, chute))
        self.undone = []

    def undo(self, case):
        if self.steps:
            case.assertIsNone(self.run.undo())
            self.undone.append(self.steps.pop())
        else:
            assert_refused(case, NothingLeft, None, self.run.undo)

    def redo(self, case):
        if self.undone:
            case.assertIsNone(self.run.redo())
            self.steps.append(self.undone.pop())
        else:
            assert_refused(case, NothingLeft, None, self.run.redo)

    def refuse(self, case, source):
        """Make calls that are refused."""
        run = self.run
        assert_refused(case, InvalidChute, 0, run.come, 0)
        assert_refused(case, InvalidWord, 0, run.come, 1, sight=0)
        assert_refused(case, InvalidPoint, 0, run.pass_on, 0)
        assert_refused(case, InvalidDeed, 1, run.do, ("come", "once"), None)
        model = self.model()
        wrong = source.choice([deed for deed in deeds_of(run.plant) if not model.possible(deed)])
        assert_refused(case, NotNow, 0, done, run, wrong, 1)
        assert_refused(case, NotNow, 1, run.do, model.deeds()[0], ("pass", 1, "swapped"))

    def act(self, case, source):
        """Do one drawn thing to the run."""
        kind = source.choice(("step", "step", "step", "undo", "undo", "redo", "refuse", "twin"))
        if kind == "step":
            self.step(source)
        elif kind == "undo":
            self.undo(case)
        elif kind == "redo":
            self.redo(case)
        elif kind == "refuse":
            self.refuse(case, source)
        else:
            self.run = self.run.twin()
        self.check(case)

    def twin(self):
        other = Played(self.run.plant)
        other.run = self.run.twin()
        other.steps, other.undone = list(self.steps), list(self.undone)
        return other


class Steps(unittest.TestCase):

    def test_nothing_left_at_the_beginning(self):
        run = Run(TWO)
        for _ in range(2):
            assert_refused(self, NothingLeft, None, run.undo)
            assert_refused(self, NothingLeft, None, run.redo)
            self.assertRaises(IndexError, run.undo)
        self.assertEqual(run.history(), (0, 0))

    def test_all_the_way_back_and_forth(self):
        source = random.Random(71)
        for plant in drawn_plants(71, 40):
            played = Played(plant)
            for _ in range(20):
                played.step(source)
            for method in (played.undo, played.redo, played.undo):
                for _ in range(21):
                    method(self)
                    played.check(self)
            self.assertEqual(played.run.history(), (0, 20))

    def test_drawn_steps_and_undo_and_redo(self):
        source = random.Random(72)
        for plant in drawn_plants(72, 90):
            played = Played(plant)
            for _ in range(45):
                played.act(self, source)

    def test_literal_steps(self):
        run = Run(ONE)
        run.come(3)
        run.do(("come", "once"), ("pass", 1, "once"), chute=5)
        run.come(4)
        run.undo()
        self.assertEqual((run.belts(), len(run), run.history()), ([[1]], 2, (2, 1)))
        run.undo()
        self.assertEqual((run.belts(), run.queues(), len(run), run.history()), ([[0]], [[0]], 1, (1, 2)))
        self.assertEqual((list(run.sendings()), run.flow()), ([], [("come", "once")]))
        run.redo()
        self.assertEqual((run.belts(), run.history(), list(run.sendings())), ([[1]], (2, 1), [(0, 0, 3)]))
        run.redo()
        self.assertEqual((run.belts(), run.history()), ([[1, 2]], (3, 0)))
        self.assertEqual([run.pass_on(1), run.pass_on(1)], [5, 4])

    def test_another_step_ends_the_redoing(self):
        for step in (lambda run: run.come(1), lambda run: run.pass_on(1), lambda run: run.do(),
                     lambda run: run.do(("come", "once"))):
            run = run_of(ONE, [("come", "once")] * 2)
            run.undo()
            step(run)
            self.assertEqual(run.history(), (2, 0))
            assert_refused(self, NothingLeft, None, run.redo)
        run = run_of(ONE, [("come", "once"), ("pass", 1, "once"), ("pause",), ("come", "once")])
        run.undo()
        run.undo()
        run.wait()
        self.assertEqual(run.history(), (3, 0))

    def test_refused_calls_do_not_end_the_redoing(self):
        run = run_of(ONE, [("come", "once")] * 3)
        run.undo()
        run.undo()
        before = told(run)
        for call in (lambda: run.come(10), lambda: run.come(1, sight=None), lambda: run.pass_on(2), run.wait,
                     lambda: run.pass_on(1, sight="swapped"), lambda: run.do(("come", "once"), ("pause",)),
                     lambda: run.do(("come",)), lambda: run.do(chute=0)):
            self.assertRaises(ValueError, call)
            self.assertEqual(told(run), before)
        run.redo()
        run.redo()
        assert_refused(self, NothingLeft, None, run.redo)
        self.assertEqual((run.belts(), run.history()), ([[0, 1, 2]], (3, 0)))

    def test_step_without_deeds(self):
        run = Run(ONE)
        run.do()
        self.assertEqual((run.history(), run.flow(), len(run)), ((1, 0), [], 0))
        run.undo()
        self.assertEqual(run.history(), (0, 1))
        run.redo()
        self.assertEqual(run.history(), (1, 0))

    def test_chutes_that_differ_from_step_to_step(self):
        run = run_of(ONE, [("come", "once")] * 3, [2, 3, 4])
        run.undo()
        run.undo()
        run.come(8)
        run.do(("come", "once"), chute=9)
        run.do(*[("pass", 1, "once")] * 3, chute=1)
        self.assertEqual(list(run.sendings()), [(0, 0, 2), (1, 1, 8), (2, 2, 9)])
        run.undo()
        run.undo()
        run.redo()
        run.redo()
        self.assertEqual(list(run.sendings()), [(0, 0, 2), (1, 1, 8), (2, 2, 9)])

    def test_history_is_a_pair_of_numbers(self):
        run = run_of(ONE, [("come", "once")] * 3)
        run.undo()
        self.assertEqual(shown(run.history()), "(2, 1)")

    def test_many_steps(self):
        run = run_of(ONE, [("come", "once"), ("pass", 1, "once")] * 300)
        self.assertEqual(run.history(), (600, 0))
        for _ in range(600):
            run.undo()
        self.assertEqual((run.history(), len(run), run == Run(ONE)), ((0, 600), 0, True))
        for _ in range(599):
            run.redo()
        self.assertEqual((run.belts(), len(run), len(list(run.sendings()))), ([[299]], 300, 299))


class Twins(unittest.TestCase):

    def test_both_runs_behind_each_deed(self):
        source = random.Random(73)
        for plant in drawn_plants(73, 45):
            one = Played(plant)
            for _ in range(source.randint(0, 15)):
                one.act(self, source)
            other = one.twin()
            self.assertTrue(one.run == other.run)
            self.assertIsNot(one.run, other.run)
            for _ in range(20):
                source.choice((one, other)).act(self, source)
                one.check(self)
                other.check(self)
                same = one.model().flow == other.model().flow and one.model().chutes == other.model().chutes
                self.assertIs(one.run == other.run, same)
                self.assertIs(other.run != one.run, not same)

    def test_redo_at_either(self):
        run = run_of(ONE, [("come", "once")] * 3, [4, 5, 6])
        run.undo()
        run.undo()
        other = run.twin()
        self.assertEqual(other.history(), (1, 2))
        run.redo()
        self.assertEqual((run.history(), other.history()), ((2, 1), (1, 2)))
        other.redo()
        other.redo()
        self.assertEqual((run.history(), other.history()), ((2, 1), (3, 0)))
        self.assertEqual((run.belts(), other.belts()), ([[0, 1]], [[0, 1, 2]]))
        run.come(9)
        self.assertEqual((run.history(), other.history()), ((3, 0), (3, 0)))
        self.assertFalse(run == other)
        other.undo()
        other.undo()
        self.assertEqual((run.history(), other.history()), ((3, 0), (1, 2)))

    def test_another_step_at_one_leaves_the_redoing_at_the_other(self):
        run = run_of(ONE, [("come", "once")] * 2)
        run.undo()
        other = run.twin()
        run.come(7)
        assert_refused(self, NothingLeft, None, run.redo)
        other.redo()
        self.assertEqual(other.history(), (2, 0))
        self.assertFalse(other == run)

    def test_twin_of_a_twin(self):
        run = run_of(ONE, [("come", "once")] * 2, [2, 3])
        other = run.twin().twin()
        run.undo()
        run.undo()
        other.do(*[("pass", 1, "once")] * 2)
        self.assertEqual(list(other.sendings()), [(0, 0, 2), (1, 1, 3)])
        self.assertEqual((type(other), other.plant), (Run, run.plant))


class Equality(unittest.TestCase):

    def test_steps_do_not_matter(self):
        deeds = [("come", "once"), ("come", "missed"), ("pass", 1, "once")]
        one, other = run_of(ONE, deeds), Run(ONE)
        other.do(*deeds)
        other.do()
        other.come(5)
        other.undo()
        self.assertTrue(one == other)
        self.assertFalse(one != other)
        self.assertEqual((one.history(), other.history()), ((3, 0), (2, 1)))

    def test_chutes_differ_at_a_parcel(self):
        deeds = [("come", "once"), ("come", "once"), ("pass", 1, "once"), ("pass", 1, "once")]
        one = run_of(ONE, deeds, [1, 2])
        self.assertTrue(one == run_of(ONE, deeds, [1, 2]))
        for chutes in ([1, 1], [2, 2], [2, 1], [1, 9]):
            self.assertFalse(one == run_of(ONE, deeds, chutes))
            self.assertTrue(one != run_of(ONE, deeds, chutes))

    def test_chutes_of_parcels_that_were_taken_back_do_not_matter(self):
        one, other = run_of(ONE, [("come", "once")] * 2, [1, 2]), run_of(ONE, [("come", "once")] * 2, [1, 3])
        self.assertFalse(one == other)
        one.undo()
        other.undo()
        self.assertTrue(one == other)
        one.redo()
        other.redo()
        self.assertFalse(one == other)

    def test_chutes_of_steps_without_comings_do_not_matter(self):
        one, other = run_of(ONE, [("come", "once")]), run_of(ONE, [("come", "once")])
        one.do(("pass", 1, "once"), chute=2)
        other.do(("pass", 1, "once"), chute=3)
        self.assertTrue(one == other)

    def test_flows_differ(self):
        one = run_of(ONE, [("come", "once"), ("pass", 1, "once")])
        for deeds in ([], [("come", "once")], [("come", "missed"), ("pass", 1, "once")],
                      [("come", "once"), ("pass", 1, "missed")], [("come", "once"), ("pass", 1, "once"), ("pause",)]):
            self.assertFalse(one == run_of(ONE, deeds))

    def test_flows_to_one_place_differ(self):
        one, other = run_of(ONE, [("come", "once")] * 2), run_of(ONE, [("come", "once")] * 2)
        one.do(("pass", 1, "once"), ("come", "once"))
        other.do(("come", "once"), ("pass", 1, "once"))
        self.assertEqual((one.place(), one.belts()), (other.place(), other.belts()))
        self.assertFalse(one == other)

    def test_unlike_plants(self):
        self.assertTrue(Run(ONE) == Run(Plant(Line(3), Tracker(4))))
        for plant in (ONE.with_offers(("seek", 1)), ONE.with_offers(("stretch", 12)), Plant(Line(2), Tracker(4)), TWO):
            self.assertFalse(Run(ONE) == Run(plant))
            self.assertFalse(run_of(ONE, [("come", "once")]) == run_of(plant, [("come", "once")]))
        source = random.Random(74)
        for turn in range(60):
            plant, other = drawn_plant(source, 1 + turn % 2), drawn_plant(source, 1 + turn % 2)
            self.assertIs(Run(plant) == Run(other), plant.text == other.text)

    def test_equal_to_no_value_of_another_class(self):
        run = run_of(ONE, [("come", "once")])
        for value in ANY_VALUES + (ONE, run.flow(), run.place(), repr(run)):
            self.assertFalse(run == value)
            self.assertFalse(value == run)
            self.assertTrue(run != value)

    def test_repr_has_the_same_word_for_all_numbers(self):
        self.assertEqual([repr(run_of(ONE, [("come", "once")] * many)) for many in range(4)],
                         ["Run(0 parcels)", "Run(1 parcels)", "Run(2 parcels)", "Run(3 parcels)"])


if __name__ == "__main__":
    unittest.main()
