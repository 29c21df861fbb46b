"""Promises 58, 59, 61 to 64 and 68: what becomes of the records."""

import copy
import itertools
import random
import unittest

from ownchute.deeds import flow_text, read_flow
from ownchute.errors import NotNow
from ownchute.lines import Line
from ownchute.places import behind, deeds_at, first_place, is_place, is_right, walked, words_of
from ownchute.plants import Plant
from ownchute.runs import Run
from ownchute.trackers import Tracker
from tests.drawn import assert_refused, drawn_deed, drawn_flow, drawn_plant, drawn_plants, shown, subsets
from tests.model import Model, deeds_of, model_at
from tests.runs_checked import assert_told, done, played, run_of

ALL_WORDS = ("missed", "twice", "swapped")


class BehindScanners(unittest.TestCase):

    def test_queue_is_right_while_no_passing_at_its_ends_slips(self):
        source = random.Random(81)
        for turn in range(120):
            plant = drawn_plant(source, 1 + turn % 3)
            ends = [0] + plant.line.scans()
            at = source.choice(ends)
            room = max(plant.line.belts()[at], plant.tracker.rooms()[at])
            plant = plant.with_offers(("room", at + 1, room))
            self.check(source, plant, at)

    def check(self, source, plant, at):
        """Check the queue behind scanner `at` where no passing there or at the next point slips."""
        run, model = Run(plant), Model(plant)
        for _ in range(60):
            deeds = [deed for deed in model.deeds() if deed[-1] in ("once", "pause") or not self.at_ends(deed, at)]
            deed = source.choice(deeds)
            model.do(deed)
            done(run, deed, 1)
            self.assertEqual(run.queues()[at], run.belts()[at])
            codes = run.place()[1][at]
            self.assertEqual(len(codes), run.place()[0][at])
            self.assertEqual(list(codes), sorted(codes, reverse=True))
            assert_told(self, run, model, (len(model.flow), 0))

    def at_ends(self, deed, at):
        point = 0 if deed[0] == "come" else deed[1]
        return point in (at, at + 1)

    def test_scanner_sets_right_what_an_eye_gets_wrong(self):
        deeds = [("come", "missed"), ("come", "once"), ("pass", 1, "once"), ("pass", 1, "once")]
        plant = Plant(Line(2, 2), Tracker(2, 2))
        self.assertEqual(run_of(plant, deeds).queues(), [[], [1]])
        plant = plant.with_offers(("scan", 1))
        self.assertEqual(run_of(plant, deeds).queues(), [[], [0, 1]])
        self.assertIs(is_right(plant, run_of(plant, deeds).place()), True)

    def test_first_record_is_dropped_without_room(self):
        plant = Plant(Line(3, 3, scans=[1]), Tracker(2, 1))
        run = run_of(plant, [("come", "once")] * 3)
        self.assertEqual(run.queues(), [[1, 2], []])
        run.pass_on(1)
        self.assertEqual(run.queues(), [[2], [0]])
        run.pass_on(1)
        self.assertEqual(run.queues(), [[], [1]])
        run.pass_on(1, sight="twice")
        self.assertEqual(run.queues(), [[], [2]])
        plant = Plant(Line(3), Tracker(3))
        run = run_of(plant, [("come", "once"), ("come", "once"), ("come", "twice")])
        self.assertEqual(run.queues(), [[1, 2, 2]])
        run = run_of(Plant(Line(3), Tracker(1)), [("come", "twice"), ("come", "once")])
        self.assertEqual(run.queues(), [[1]])


class FirstParcelsMissed(unittest.TestCase):

    def test_the_two_rules_against_one_another(self):
        deeds = [("come", "missed"), ("pass", 1, "once"), ("come", "once"), ("pass", 1, "once")]
        passes = [("pass", 2, "once")] * 2
        blank = Plant(Line(2, 2), Tracker(2, 2, empty="blank"))
        run = run_of(blank, deeds, [4, 5])
        self.assertEqual(run.queues(), [[], [None, 1]])
        self.assertEqual(run.place()[1], ((), (-2, 0)))
        run.do(*passes)
        self.assertEqual(list(run.sendings()), [(0, None, None), (1, 1, 5)])
        self.assertEqual((run.astray(), words_of(blank, deeds + passes)), ([], ["on", "own"]))
        none = blank.with_offers(("empty", "none"))
        run = run_of(none, deeds, [4, 5])
        self.assertEqual(run.queues(), [[], [1]])
        run.do(*passes)
        self.assertEqual(list(run.sendings()), [(0, 1, 5), (1, None, None)])
        self.assertEqual((run.astray(), words_of(none, deeds + passes)), ([0], ["other", "on"]))

    def test_blanks_move_on(self):
        plant = Plant(Line(2, 2, 2, slips=(1, 2)), Tracker(2, 2, 2, empty="blank"))
        run = run_of(plant, [("come", "missed"), ("pass", 1, "once"), ("pass", 2, "twice")])
        self.assertEqual(run.queues(), [[], [], [None, None]])
        self.assertEqual(run.place()[1], ((), (), (-2, -2)))
        self.assertIsNone(run.pass_on(3))
        self.assertEqual(run.queues(), [[], [], [None]])

    def test_look_twice_at_an_empty_queue(self):
        for empty, queue in (("blank", [None, None]), ("none", [])):
            plant = Plant(Line(1, 1, slips=(2, 2)), Tracker(1, 3, empty=empty))
            run = run_of(plant, [("come", "missed"), ("pass", 1, "twice")])
            self.assertEqual(run.queues(), [[], queue])
        plant = Plant(Line(1, 1, slips=(2, 2)), Tracker(1, 3, empty="blank"))
        self.assertEqual(run_of(plant, [("come", "once"), ("pass", 1, "twice")]).queues(), [[], [0, None]])

    def test_missed_pass_takes_nothing(self):
        for scans in ((), (1,)):
            plant = Plant(Line(1, 1, scans=scans), Tracker(1, 1, empty="blank"))
            self.assertEqual(run_of(plant, [("come", "once"), ("pass", 1, "missed")]).queues(), [[0], []])

    def test_drawn_flows_that_begin_with_missed_parcels(self):
        source = random.Random(82)
        for turn in range(60):
            plant = Plant(Line(*[3] * (1 + turn % 3), slips=(3, 3), scans=source.choice(((), (1,)) if turn % 3 else ((),))),
                          Tracker(*[source.randint(1, 4) for _ in range(1 + turn % 3)],
                                  empty=("blank", "none")[turn // 3 % 2], pause="keep"))
            run, model = Run(plant), Model(plant)
            deeds = [("come", "missed")] * source.randint(1, 3) + [None] * 30
            for many, deed in enumerate(deeds, 1):
                deed = deed or drawn_deed(source, model)
                chute = source.randint(1, 9)
                model.do(deed, chute)
                done(run, deed, chute)
                assert_told(self, run, model, (many, 0))

    def test_rule_of_empty_does_not_matter_to_scanners(self):
        for empty in ("blank", "none"):
            plant = Plant(Line(2, 2, scans=[1]), Tracker(2, 2, empty=empty))
            self.assertEqual(run_of(plant, [("come", "missed"), ("pass", 1, "once")]).queues(), [[], [0]])


class Swaps(unittest.TestCase):

    def test_parcel_that_is_still_there(self):
        plant = Plant(Line(3, stretch=4), Tracker(4))
        run = run_of(plant, [("come", "once"), ("come", "swapped")], [2, 3])
        self.assertEqual((run.swap, run.queues(), run.place()), (1, [[0]], ((2,), ((1,),), 0, (0, 0, 1), 2)))
        for sight in ALL_WORDS:
            assert_refused(self, NotNow, 0, run.come, 1, sight=sight)
        run.come(4)
        self.assertEqual((run.swap, run.queues()), (None, [[0, 2, 1]]))
        self.assertEqual(run.place(), ((3,), ((2, 0, 1),), -2, (0, 1, 0), 3))
        run.do(*[("pass", 1, "once")] * 3)
        self.assertEqual(list(run.sendings()), [(0, 0, 2), (1, 2, 4), (2, 1, 3)])

    def test_parcel_that_has_left(self):
        plant = Plant(Line(1), Tracker(3))
        run = run_of(plant, [("come", "swapped")], [6])
        self.assertEqual(run.place(), ((1,), ((),), 0, (0, 0, 1), 1))
        run.pass_on(1)
        self.assertEqual((run.swap, run.belts(), run.queues()), (0, [[]], [[]]))
        self.assertEqual(run.place(), ((0,), ((),), -1, (0, 1, 0), 1))
        self.assertIs(is_right(plant, run.place()), False)
        assert_refused(self, NotNow, 0, run.wait)
        self.assertEqual(deeds_at(plant, run.place()), [("come", "once")])
        run.come(7)
        self.assertEqual((run.swap, run.queues()), (None, [[1, 0]]))
        self.assertEqual(run.place(), ((1,), ((0, -1),), -2, (1, 0, 0), 1))
        self.assertEqual(run.pass_on(1), 7)
        self.assertEqual(run.place(), ((0,), ((-1,),), -2, (0, 0, 0), 1))
        run.wait()
        self.assertEqual(run.queues(), [[]])

    def test_pause_waits_for_the_swap(self):
        for pause, queue in (("clear", []), ("keep", [1])):
            plant = Plant(Line(1), Tracker(3, pause=pause))
            run = run_of(plant, [("come", "once"), ("pass", 1, "once"), ("pause",), ("come", "swapped"),
                                 ("pass", 1, "once")])
            assert_refused(self, NotNow, 0, run.wait)
            run.do(("come", "once"), ("pass", 1, "once"))
            run.wait()
            self.assertEqual(run.queues(), [queue])

    def test_pause_that_keeps_or_clears(self):
        deeds = [("come", "twice"), ("pass", 1, "once"), ("pass", 2, "missed"), ("pause",)]
        for pause, queues in (("clear", [[], []]), ("keep", [[0], [0]])):
            run = run_of(Plant(Line(1, 1, slips=(3, 3)), Tracker(2, 2, pause=pause)), deeds)
            self.assertEqual(run.queues(), queues)
            self.assertEqual(run.place()[1:], (tuple((-1,) * len(queue) for queue in queues), -2, (0, 1), 0))

    def test_stretch_lets_one_parcel_more_come(self):
        for stretch in (1, 2, 3):
            plant = Plant(Line(1, stretch=stretch), Tracker(2))
            run = run_of(plant, [("come", "once"), ("pass", 1, "once")] * (stretch - 1) + [("come", "swapped"),
                                                                                         ("pass", 1, "once")])
            self.assertEqual(run.place()[4], stretch)
            run.come(1)
            self.assertEqual((run.place()[4], len(run)), (stretch, stretch + 1))
            run.pass_on(1)
            assert_refused(self, NotNow, 0, run.come, 1)
            run.wait()
            self.assertEqual(run.place()[4], 0)
            run.come(1)
            self.assertEqual(run.place()[4], 1)

    def test_no_room_for_the_parcel_behind(self):
        run = run_of(Plant(Line(1), Tracker(3)), [("come", "swapped")])
        assert_refused(self, NotNow, 0, run.come, 1)

    def test_swap_in_a_queue_without_room(self):
        for room, queue in ((1, [0]), (2, [1, 0]), (3, [1, 0])):
            run = run_of(Plant(Line(2), Tracker(room)), [("come", "swapped"), ("come", "once")])
            self.assertEqual(run.queues(), [queue])

    def test_drawn_swaps(self):
        source = random.Random(83)
        swaps = 0
        for turn in range(90):
            plant = drawn_plant(source, 1 + turn % 3)
            plant = Plant(plant.line.changed(words=["swapped"], slips=(3, 4)), plant.tracker)
            run, model = Run(plant), Model(plant)
            for many in range(1, 41):
                deeds = [deed for deed in model.deeds() if deed[-1] == "swapped"]
                deed = deeds[0] if deeds and source.random() < 0.5 else drawn_deed(source, model)
                model.do(deed, many % 9 + 1)
                done(run, deed, many % 9 + 1)
                assert_told(self, run, model, (many, 0))
                swaps += run.swap is not None and run.place()[2] == -1
                if run.swap is not None:
                    assert_refused(self, NotNow, 0, run.wait)
        self.assertGreater(swaps, 30)


class Scanners(unittest.TestCase):

    def scanned(self, seek, strange, queue, sight="once"):
        """Return queues 1 and 2 behind the passing of the parcel with code 2, the first of three."""
        plant = Plant(Line(3, 1, scans=[1], slips=(1, 1)), Tracker(4, 4, seek=seek, strange=strange))
        place = ((3, 0), (queue, ()), -2, (), 1)
        self.assertIs(is_place(plant, place), True)
        (counts, queues, swap, slips, comings), word = behind(plant, place, ("pass", 1, sight))
        self.assertEqual((counts, swap, slips, comings, word), ((2, 1), -2, (), 1, None))
        return queues

    def test_label_at_each_index(self):
        others = (1, 0, -1, -2)
        for at in range(4):
            queue = others[:at] + (2,) + others[at + 1:]
            for seek in range(4):
                found = queue[at + 1:]
                self.assertEqual(self.scanned(seek, "first", queue), (found if at <= seek else queue[1:], (2,)))
                self.assertEqual(self.scanned(seek, "none", queue), (found if at <= seek else queue, (2,)))

    def test_strange_label(self):
        for seek in range(4):
            for queue in ((), (1,), (1, 0), (-1, -2, 0, 1)):
                self.assertEqual(self.scanned(seek, "first", queue), (queue[1:], (2,)))
                self.assertEqual(self.scanned(seek, "none", queue), (queue, (2,)))

    def test_first_occurrence(self):
        self.assertEqual(self.scanned(3, "first", (1, 2, 2, 0)), ((2, 0), (2,)))
        self.assertEqual(self.scanned(3, "first", (2, 2, 2, 2)), ((2, 2, 2), (2,)))
        self.assertEqual(self.scanned(0, "none", (1, 2, 2, 2)), ((1, 2, 2, 2), (2,)))

    def test_look_twice(self):
        self.assertEqual(self.scanned(2, "first", (2, 1, 2, 0), "twice"), ((0,), (2, 2)))
        self.assertEqual(self.scanned(0, "first", (2, 1, 2, 0), "twice"), ((2, 0), (2, 2)))
        self.assertEqual(self.scanned(0, "none", (2, 1, 2, 0), "twice"), ((1, 2, 0), (2, 2)))
        self.assertEqual(self.scanned(0, "first", (1,), "twice"), ((), (2, 2)))
        self.assertEqual(self.scanned(3, "first", (2, 1, 0), "twice"), ((0,), (2, 2)))
        self.assertEqual(self.scanned(3, "none", (2, 1, 0), "twice"), ((1, 0), (2, 2)))

    def test_missed(self):
        for seek in range(4):
            for strange in ("first", "none"):
                self.assertEqual(self.scanned(seek, strange, (1, 2, 0), "missed"), ((1, 2, 0), ()))

    def test_all_queues(self):
        for seek, strange, room in itertools.product(range(4), ("first", "none"), (1, 2, 4)):
            plant = Plant(Line(3, 2, scans=[1], slips=(1, 1)), Tracker(4, room, seek=seek, strange=strange))
            for many in range(5):
                for queue in itertools.product((-2, -1, 0, 1, 2, 3), repeat=many):
                    place = ((3, 1), (queue, (3, -2)[:room]), -2, (), 1)
                    deed = ("pass", 1, ("once", "twice")[(sum(queue) + many) % 2])
                    model = model_at(plant, place)
                    self.assertEqual(behind(plant, place, deed), (model.do(deed), model.place())[::-1])

    def test_a_scanner_goes_by_labels_not_by_order(self):
        plant = Plant(Line(3, 3, scans=[1], slips=(1, 2)), Tracker(3, 3, seek=2))
        run = run_of(plant, [("come", "missed"), ("come", "once"), ("come", "once")])
        run.pass_on(1)
        self.assertEqual(run.queues(), [[2], [0]])
        run.pass_on(1)
        self.assertEqual(run.queues(), [[], [0, 1]])
        other = run_of(plant.with_offers(("strange", "none")), [("come", "missed"), ("come", "once"), ("come", "once")])
        other.pass_on(1)
        self.assertEqual(other.queues(), [[1, 2], [0]])
        other.pass_on(1)
        self.assertEqual(other.queues(), [[2], [0, 1]])

    def test_drawn_flows_with_scanners(self):
        source = random.Random(84)
        for turn in range(60):
            many = 2 + turn % 2
            plant = drawn_plant(source, many)
            plant = Plant(plant.line.changed(scans=range(1, many), slips=(2, 3), words=ALL_WORDS), plant.tracker)
            plant = plant.with_offers(("seek", turn % 4), ("strange", ("first", "none")[turn // 4 % 2]))
            played(self, plant, turn, 50, source)


class Windows(unittest.TestCase):

    def test_slips_behind_each_deed(self):
        source = random.Random(85)
        for most, among in itertools.product(range(4), range(1, 7)):
            plant = Plant(Line(2, 2, slips=(most, among)), Tracker(2, 2))
            model, place = Model(plant), first_place(plant)
            for _ in range(60):
                last = ([0] * among + [int(sight != "once") for sight in model.sights])[-among:][1:]
                self.assertEqual(place[3], tuple(last))
                deeds = deeds_at(plant, place)
                self.assertEqual(deeds, model.deeds())
                slips = [deed for deed in deeds if deed[-1] in ALL_WORDS]
                self.assertEqual(slips, self.slips_beside(deeds, model.swap) if sum(last) + 1 <= most else [])
                deed = source.choice(slips or deeds)
                model.do(deed)
                place, _ = behind(plant, place, deed)

    def slips_beside(self, deeds, swap):
        """Return the slips that are possible beside these deeds while slips are."""
        slips = []
        for deed in deeds:
            if deed == ("come", "once") and swap is None:
                slips += [("come", sight) for sight in ALL_WORDS]
            if deed[0] == "pass" and deed[2] == "once":
                slips += [("pass", deed[1], "missed"), ("pass", deed[1], "twice")]
        return slips

    def test_literal_windows(self):
        plant = Plant(Line(3, slips=(1, 4)), Tracker(3))
        run = run_of(plant, [("come", "missed")])
        for deed, slips in ((("come", "once"), (0, 1, 0)), (("pass", 1, "once"), (1, 0, 0)),
                            (("pass", 1, "once"), (0, 0, 0))):
            assert_refused(self, NotNow, 0, run.come, 1, sight="twice")
            done(run, deed, 1)
            self.assertEqual(run.place()[3], slips)
        self.assertEqual(run.come(1, sight="twice"), 2)
        self.assertEqual(run.place()[3], (0, 0, 1))

    def test_two_of_three(self):
        plant = Plant(Line(3, slips=(2, 3)), Tracker(3))
        run = run_of(plant, [("come", "missed"), ("come", "twice")])
        self.assertEqual(run.place()[3], (1, 1))
        assert_refused(self, NotNow, 0, run.come, 1, sight="missed")
        assert_refused(self, NotNow, 0, run.pass_on, 1, sight="missed")
        run.pass_on(1)
        self.assertEqual(run.place()[3], (1, 0))
        run.pass_on(1, sight="missed")
        self.assertEqual(run.place()[3], (0, 1))

    def test_no_slips_and_only_slips(self):
        for among in range(1, 7):
            plant = Plant(Line(1, slips=(0, among)), Tracker(1))
            self.assertEqual(deeds_at(plant, first_place(plant)), [("come", "once")])
        for most in (1, 2, 3):
            plant = Plant(Line(1, slips=(most, most)), Tracker(1))
            flow = [("come", "missed"), ("pass", 1, "missed")] * 20
            self.assertEqual(words_of(plant, flow), ["on"] * 20)
            self.assertEqual(walked(plant, flow)[-1][3], (1,) * (most - 1))

    def test_pauses_are_no_passings(self):
        plant = Plant(Line(1, slips=(1, 4)), Tracker(1))
        run = run_of(plant, [("come", "missed"), ("pass", 1, "once"), ("pause",)])
        self.assertEqual(run.place()[3], (0, 1, 0))
        assert_refused(self, NotNow, 0, run.come, 1, sight="missed")
        run.do(("come", "once"), ("pass", 1, "once"), ("pause",), ("come", "missed"))
        self.assertEqual(run.place()[3], (0, 0, 1))

    def test_swaps_are_slips_at_their_beginning_alone(self):
        plant = Plant(Line(3, slips=(1, 2)), Tracker(4))
        run = run_of(plant, [("come", "swapped")])
        self.assertEqual(run.place()[3], (1,))
        assert_refused(self, NotNow, 0, run.pass_on, 1, sight="missed")
        run.come(1)
        self.assertEqual(run.place()[3], (0,))
        run.pass_on(1, sight="missed")


class GreatestLines(unittest.TestCase):

    def plants(self):
        rules = itertools.product((0, 3), ("blank", "none"), ("first", "none"), ("clear", "keep"))
        for at, (seek, empty, strange, pause) in enumerate(rules):
            scans = subsets((1, 2))[at % 4]
            line = Line(3, 3, 3, scans=scans, slips=(3, 6), stretch=(None, 12)[at // 4 % 2])
            yield Plant(line, Tracker(4, 4, 4, seek=seek, empty=empty, strange=strange, pause=pause))

    def filling(self, source, model):
        """Return a deed that is possible, comes before passes more often than not."""
        deeds = [deed for deed in model.deeds() if deed[0] == "come"]
        return source.choice(deeds) if deeds and source.random() < 0.6 else drawn_deed(source, model)

    def test_a_hundred_deeds(self):
        source = random.Random(86)
        full = 0
        for plant in self.plants():
            run, model = Run(plant), Model(plant)
            places = [model.place()]
            for many in range(1, 101):
                deed, chute = self.filling(source, model), source.randint(1, 9)
                model.do(deed, chute)
                done(run, deed, chute)
                assert_told(self, run, model, (many, 0))
                self.assertIs(is_place(plant, run.place()), True)
                self.assertEqual(deeds_at(plant, run.place()), model.deeds())
                places.append(model.place())
                full += places[-1][0] == (3, 3, 3)
            flow = run.flow()
            self.assertEqual(shown(walked(plant, flow)), shown(places))
            self.assertEqual(words_of(plant, flow), model.words)
            self.assertEqual(read_flow(plant, flow_text(flow)), flow)
            self.assertEqual(flow_text(flow), "".join(" ".join(map(str, deed)) + "\n" for deed in flow))
            for _ in range(100):
                run.undo()
                places.pop()
                self.assertEqual(run.place(), places[-1])
        self.assertGreater(full, 10)

    def test_places_at_the_bounds(self):
        plant = Plant(Line(3, 3, 3, scans=[1, 2], slips=(3, 6), stretch=12), Tracker(4, 4, 4, seek=3))
        place = ((3, 3, 3), ((8,) * 4, (-2,) * 4, (-1, 8, 0, 8)), 8, (1, 0, 1, 0, 1), 12)
        self.assertIs(is_place(plant, place), True)
        self.assertEqual(deeds_at(plant, place), [("pass", 3, "once")])
        there, word = behind(plant, place, ("pass", 3, "once"))
        self.assertEqual((there, word), (
            ((3, 3, 2), ((-1,) * 4, (-2,) * 4, (-1, 0, -1)), -1, (0, 1, 0, 1, 0), 12), "other"))
        self.assertIs(is_place(plant, there), True)
        for bent in (((4, 3, 3),) + place[1:], place[:2] + (9,) + place[3:], place[:4] + (13,),
                     place[:3] + ((1, 1, 1, 1, 0), 12), place[:1] + (((8,) * 5, (), ()),) + place[2:],
                     place[:1] + (((9,), (), ()),) + place[2:], place[:3] + ((1, 1, 1, 0), 12)):
            self.assertIs(is_place(plant, bent), False)

    def test_walk_of_a_full_line(self):
        plant = Plant(Line(3, 3, 3, slips=(3, 6)), Tracker(4, 4, 4))
        comes = [("come", "once")] * 3
        onward = [("pass", 1, "once")] * 3
        flow = comes + onward + [("pass", 2, "once")] * 3 + comes + onward + comes
        place = walked(plant, flow)[-1]
        self.assertEqual(place, ((3, 3, 3), ((2, 1, 0), (5, 4, 3), (8, 7, 6)), -2, (0,) * 5, 1))
        self.assertIs(is_right(plant, place), True)
        self.assertEqual(deeds_at(plant, place), [("pass", 3, "once"), ("pass", 3, "missed"), ("pass", 3, "twice")])
        run = Run(plant)
        run.do(*flow)
        self.assertEqual(run.belts(), [[6, 7, 8], [3, 4, 5], [0, 1, 2]])
        self.assertEqual(run.queues(), run.belts())


def drawn_place(source, plant):
    """Return a drawn tuple of the form of a place."""
    counts = tuple(source.randint(0, room) for room in plant.line.belts())
    codes = range(-2, sum(counts))
    queues = tuple(tuple(source.choices(codes, k=source.randint(0, room))) for room in plant.tracker.rooms())
    most, among = plant.line.slips
    slips = [1] * source.randint(0, min(most, among - 1))
    slips += [0] * (among - 1 - len(slips))
    source.shuffle(slips)
    bound = 1 if plant.line.stretch is None else plant.line.stretch
    return counts, queues, source.choice(codes), tuple(slips), source.randint(0, bound)


def all_places(plant):
    """Return all tuples of the form of a place of a plant with one belt."""
    most, among = plant.line.slips
    bound = 1 if plant.line.stretch is None else plant.line.stretch
    places = []
    for count in range(plant.line.belts()[0] + 1):
        codes = range(-2, count)
        queues = [queue for many in range(plant.tracker.rooms()[0] + 1)
                  for queue in itertools.product(codes, repeat=many)]
        slips = [row for row in itertools.product((0, 1), repeat=among - 1) if sum(row) <= most]
        places += [((count,), (queue,), swap, row, comings) for queue in queues for swap in codes for row in slips
                   for comings in range(bound + 1)]
    return places


class PlacesOfTheForm(unittest.TestCase):

    def check(self, plant, place):
        self.assertIs(is_place(plant, place), True)
        model = model_at(plant, place)
        self.assertEqual(model.place(), place)
        self.assertIs(is_right(plant, place), model.is_right())
        deeds = deeds_at(plant, place)
        self.assertEqual(deeds, model.deeds())
        for deed in deeds:
            other = copy.deepcopy(model)
            word = other.do(deed)
            there, told = behind(plant, place, deed)
            self.assertEqual(shown((there, told)), shown((other.place(), word)))
            self.assertIs(is_place(plant, there), True)

    def test_all_places_of_small_plants(self):
        lines = (Line(1, slips=(1, 2)), Line(2, slips=(1, 2), stretch=2), Line(2, slips=(2, 2), words=("twice",)))
        for line in lines:
            for empty, pause in (("blank", "keep"), ("none", "clear")):
                plant = Plant(line, Tracker(2, empty=empty, pause=pause))
                for place in all_places(plant):
                    self.check(plant, place)

    def test_drawn_places(self):
        source = random.Random(87)
        for plant in drawn_plants(87, 150):
            for _ in range(12):
                self.check(plant, drawn_place(source, plant))

    def test_places_behind_behind(self):
        source = random.Random(88)
        for plant in drawn_plants(88, 60):
            place = drawn_place(source, plant)
            model = model_at(plant, place)
            for _ in range(15):
                deeds = deeds_at(plant, place)
                self.assertEqual(deeds, model.deeds())
                if not deeds:
                    break
                deed = source.choice(deeds)
                word = model.do(deed)
                self.assertEqual(behind(plant, place, deed), (model.place(), word))
                place = model.place()
                self.assertIs(is_place(plant, place), True)

    def test_equal_codes(self):
        plant = Plant(Line(2, 2, scans=[1], slips=(1, 2)), Tracker(3, 3, seek=1))
        place = ((2, 1), ((1, 1, 0), (2, 2)), -2, (0,), 1)
        self.assertEqual(behind(plant, place, ("pass", 1, "once")),
                         (((1, 2), ((1, 0), (2, 2, 1)), -2, (0,), 1), None))
        self.assertEqual(behind(plant, place, ("pass", 2, "once")),
                         (((2, 0), ((1, 1, 0), (-1,)), -2, (0,), 1), "own"))
        self.assertEqual(behind(plant, place, ("pass", 2, "twice")),
                         (((2, 0), ((1, 1, 0), ()), -2, (1,), 1), "own"))

    def test_codes_out_of_order(self):
        plant = Plant(Line(2, 2, slips=(1, 2)), Tracker(3, 3))
        place = ((2, 1), ((-2, 2, 0), (-1, 1)), 2, (0,), 1)
        self.assertEqual(behind(plant, place, ("pass", 2, "once")),
                         (((2, 0), ((-2, -1, 0), (1,)), -1, (0,), 1), "other"))
        self.assertEqual(behind(plant, place, ("pass", 1, "once")),
                         (((1, 2), ((2, 0), (-1, 1, -2)), 2, (0,), 1), None))
        self.assertIs(is_right(plant, place), False)

    def test_open_swaps(self):
        plant = Plant(Line(2, slips=(1, 1), stretch=2), Tracker(3))
        for swap, code in ((-1, -1), (0, 1)):
            place = ((1,), ((0, 0),), swap, (), 2)
            self.assertEqual(deeds_at(plant, place), [("come", "once"), ("pass", 1, "once"), ("pass", 1, "missed"),
                                                      ("pass", 1, "twice")])
            self.assertEqual(behind(plant, place, ("come", "once")), (((2,), ((1, 0, code),), -2, (), 2), None))
            self.assertEqual(behind(plant, place, ("pass", 1, "once")), (((0,), ((-1,),), -1, (), 2), "own"))
        self.assertEqual(deeds_at(plant, ((0,), ((),), -1, (), 2)), [("come", "once")])
        self.assertEqual(deeds_at(plant, ((2,), ((),), -1, (), 2)),
                         [("pass", 1, "once"), ("pass", 1, "missed"), ("pass", 1, "twice")])
        self.assertEqual(deeds_at(plant, ((0,), ((),), -2, (), 2)), [("pause",)])
        self.assertEqual(deeds_at(plant, ((0,), ((-1,),), -2, (), 1))[-1], ("pause",))

    def test_comings_at_their_bounds(self):
        plant = Plant(Line(3, slips=(0, 1), stretch=2), Tracker(3))
        self.assertEqual(deeds_at(plant, ((3,), ((),), -2, (), 0)), [("pass", 1, "once")])
        self.assertEqual(deeds_at(plant, ((2,), ((),), -2, (), 2)), [("pass", 1, "once")])
        self.assertEqual(deeds_at(plant, ((2,), ((),), -2, (), 1)), [("come", "once"), ("pass", 1, "once")])
        self.assertEqual(deeds_at(plant, ((0,), ((-1,),), -2, (), 0)), [("come", "once")])
        plant = Plant(Line(3, slips=(0, 1)), Tracker(3))
        self.assertEqual(behind(plant, ((2,), ((),), -2, (), 0), ("come", "once"))[0], ((3,), ((0,),), -2, (), 1))
        self.assertEqual(behind(plant, ((2,), ((),), -2, (), 1), ("come", "once"))[0], ((3,), ((0,),), -2, (), 1))

    def test_order_of_the_deeds(self):
        source = random.Random(89)
        for plant in drawn_plants(89, 20):
            order = deeds_of(plant)
            for _ in range(10):
                indexes = [order.index(deed) for deed in deeds_at(plant, drawn_place(source, plant))]
                self.assertEqual(indexes, sorted(indexes))


if __name__ == "__main__":
    unittest.main()
