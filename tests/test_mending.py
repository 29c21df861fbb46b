"""Promises 31 to 36 and 69: settled places, heights, and papers that tell whether a plant mends."""

import itertools
import random
import unittest

from ownchute.errors import InvalidNumber
from ownchute.lines import Line
from ownchute.mending import Mends, Never, heights, mended, settled
from ownchute.places import is_place, is_right, met_places, walked
from ownchute.plants import Plant
from ownchute.runs import Run
from ownchute.trackers import Tracker
from tests.bending import (KINDS, bent_flows, bent_places, with_one_twice, with_two_exchanged, with_values,
                           without_one)
from tests.drawn import ANY_VALUES, assert_refused, drawn_deed, drawn_flow, drawn_plants, shown
from tests.model import deeds_of, model_at, model_of_flow
from tests.oracle import closed, is_height, mends_holds, never_holds, plain, small_graphs, steps_at



def healing(plants):
    """Return the plants with as much room for records as for parcels, so that further parcels push wrong ones out."""
    return [Plant(plant.line, plant.tracker.changed(rooms=plant.line.belts())) for plant in plants]


GRAPHS = small_graphs(drawn_plants(121, 140) + healing(drawn_plants(130, 70)), 130)
ONCE, OUT = ("come", "once"), ("pass", 1, "once")
SHORT = Plant(Line(2, words=[]), Tracker(1))
CLEAR = Plant.read("belts 1 slips 1 2 missed stretch 2 rooms 2 seek 0 none first clear")


def papers(kind):
    """Return the pairs of a plant and its paper of the kind."""
    pairs = [(graph.plant, mended(graph.plant)) for graph in GRAPHS]
    return [pair for pair in pairs if type(pair[1]) is kind]


class SettledPlaces(unittest.TestCase):

    def test_small_plants(self):
        unlike = 0
        for graph in GRAPHS:
            places = settled(graph.plant)
            self.assertIs(type(places), list)
            self.assertEqual(shown(places), shown(sorted(graph.settled())))
            self.assertEqual(settled(plant=graph.plant, most=len(graph.places)), places)
            unlike += [place for place in graph.places if place in places] != places
        self.assertGreater(unlike, 10)

    def test_literals(self):
        plant = Plant(Line(1, slips=(0, 1)), Tracker(1))
        self.assertEqual(shown(settled(plant)),
                         "[((0,), ((),), -2, (), 0), ((0,), ((),), -2, (), 1), ((1,), ((0,),), -2, (), 1)]")
        self.assertEqual(settled(SHORT), [])
        places = settled(CLEAR)
        self.assertIn(((0,), ((),), -2, (0,), 0), places)
        self.assertNotIn(((1,), ((),), -2, (1,), 1), places)

    def test_right_but_not_for_ever(self):
        place = ((0,), ((),), -2, (0, 0, 0), 0)
        self.assertIs(is_right(SHORT, place), True)
        self.assertNotIn(place, settled(SHORT))

    def test_list_is_new(self):
        settled(CLEAR).clear()
        self.assertGreater(len(settled(CLEAR)), 1)
        heights(CLEAR).clear()
        self.assertGreater(len(heights(CLEAR)), 1)


class Heights(unittest.TestCase):

    def test_small_plants(self):
        found = set()
        for graph in GRAPHS:
            table = heights(graph.plant)
            self.assertIs(type(table), dict)
            self.assertEqual(shown(sorted(table.items(), key=shown)),
                             shown(sorted(graph.heights().items(), key=shown)))
            self.assertEqual(heights(plant=graph.plant, most=5000), table)
            found |= set(table.values())
        self.assertTrue({None, 0, 1, 2, 3} <= found)

    def test_literals(self):
        self.assertEqual(set(heights(SHORT).values()), {None})
        table = heights(CLEAR)
        self.assertEqual(table[((0,), ((),), -2, (0,), 0)], 0)
        self.assertEqual(table[((1,), ((),), -2, (1,), 1)], 1)
        self.assertEqual(table[((0,), ((-1,),), -2, (1,), 1)], 2)
        self.assertEqual(table[((0,), ((-1,),), -2, (1,), 2)], 1)

    def test_places_without_height_have_rings(self):
        for graph in GRAPHS[:60]:
            table = heights(graph.plant)
            for place in graph.places:
                steps = [there for deed, _, there in graph.steps[place] if plain(deed)]
                if table[place] is None:
                    self.assertIn(None, [table[there] for there in steps])
                else:
                    self.assertNotIn(None, [table[there] for there in steps])

    def test_wrong_numbers(self):
        for value in [0, -1, 20001, 10 ** 29, True, False, None, "1", "", (), [], (1,), [1]]:
            for call in (settled, heights, mended):
                assert_refused(self, InvalidNumber, value, call, CLEAR, most=value)


class Mended(unittest.TestCase):

    def test_small_plants(self):
        kinds = {Mends: 0, Never: 0}
        for graph in GRAPHS:
            paper, table = mended(graph.plant), graph.heights()
            kinds[type(paper)] += 1
            self.assertIs(type(paper), Never if None in table.values() else Mends)
            self.assertIs(paper.holds(graph.plant), True)
            if isinstance(paper, Mends):
                self.check_mends(graph, table, paper)
            else:
                self.assertIs(never_holds(graph.plant, paper.flow(), paper.ring(), paper.spur()), True)
        self.assertGreater(min(kinds.values()), 20)

    def check_mends(self, graph, table, paper):
        self.assertEqual(shown(paper.rows()), shown([(place, table[place]) for place in graph.places]))
        self.assertEqual([place for place, _ in paper.rows()], list(met_places(graph.plant)))
        self.assertEqual(paper.comings, max(0, max(table.values()) - 1))
        self.assertIs(mends_holds(graph.plant, paper.rows(), paper.flow()), True)
        walked(graph.plant, paper.flow())

    def test_literals(self):
        paper = mended(CLEAR)
        self.assertEqual((type(paper), paper.comings), (Mends, 1))
        for rooms in ("belts 1 slips 1 4 missed rooms 1", "belts 1 slips 1 4 missed twice rooms 1"):
            for pause in ("clear", "keep"):
                plant = Plant.read(f"{rooms} seek 0 none first {pause}")
                paper = mended(plant)
                self.assertEqual((type(paper), paper.comings), (Mends, 1))
                self.assertIs(paper.holds(plant), True)
                self.assertEqual(paper.flow()[-1], ONCE)
        paper = mended(Plant(Line(1, slips=(0, 1)), Tracker(1)))
        self.assertEqual((paper.comings, paper.flow(), len(paper.rows())), (0, [], 3))
        self.assertIs(type(mended(SHORT)), Never)
        keep = Plant.read(CLEAR.text.replace("clear", "keep"))
        self.assertIs(type(mended(keep)), Never)
        self.assertIs(Never([ONCE, ("pass", 1, "missed")], [ONCE, OUT], []).holds(keep), False)
        self.assertIs(Never([ONCE, ("pass", 1, "missed"), ("pause",), ONCE, OUT, ("pause",)],
                            [ONCE, OUT, ("pause",)], [ONCE]).holds(keep), True)

    def test_texts(self):
        for graph in GRAPHS[:80]:
            one, other = mended(graph.plant), mended(Plant.read(graph.plant.text))
            self.assertIs(type(one), type(other))
            if isinstance(one, Mends):
                self.assertEqual((one.comings, one.rows()), (other.comings, other.rows()))
            self.assertIs(other.holds(graph.plant), True)

    def test_plants_of_more_places(self):
        for plant in drawn_plants(122, 40):
            if len(list(itertools.islice(met_places(plant, most=20000), 1200))) < 1200:
                self.assertIs(mended(plant).holds(plant), True)


class Against(unittest.TestCase):
    """Promise 34: flows with slips, and plain deeds behind them, played by runs."""

    def test_settled_places_stay_right(self):
        source = random.Random(123)
        for graph in GRAPHS[:70]:
            run, places = self.slipped(source, graph), set(settled(graph.plant))
            stays = run.place() in places
            for _ in range(30):
                if stays:
                    self.assertIs(is_right(graph.plant, run.place()), True)
                    self.assertIn(run.place(), places)
                run.do(source.choice([deed for deed, _, _ in graph.steps[run.place()] if plain(deed)]))

    def slipped(self, source, graph):
        run = Run(graph.plant)
        run.do(*drawn_flow(source, graph.plant, source.randint(0, 25)))
        return run

    def test_right_behind_the_comings(self):
        source = random.Random(124)
        for graph in GRAPHS:
            paper = mended(graph.plant)
            if isinstance(paper, Mends):
                run = self.slipped(source, graph)
                came = len(run)
                for _ in range(80):
                    if len(run) > came + paper.comings:
                        self.assertIs(is_right(graph.plant, run.place()), True)
                    run.do(source.choice([deed for deed, _, _ in graph.steps[run.place()] if plain(deed)]))

    def test_flows_of_mends(self):
        for plant, paper in papers(Mends):
            run = Run(plant)
            run.do(*paper.flow())
            slips = [at for at, deed in enumerate(paper.flow()) if not plain(deed)]
            behind_slips = paper.flow()[slips[-1] + 1:] if slips else paper.flow()
            self.assertEqual(sum(deed[0] == "come" for deed in behind_slips), paper.comings)
            if paper.comings:
                table = heights(plant)
                self.assertTrue(all(table[place] for place in walked(plant, paper.flow())[len(paper.flow())
                                                                                        - len(behind_slips):-1]))

    def test_rings_of_never(self):
        for plant, paper in papers(Never):
            run = Run(plant)
            run.do(*paper.flow())
            place = run.place()
            for _ in range(4):
                run.do(*paper.ring())
                self.assertEqual(run.place(), place)
                self.assertNotIn(place, settled(plant))
            run.do(*paper.spur())
            self.assertIs(is_right(plant, run.place()), False)
            self.assertTrue(all(plain(deed) for deed in paper.ring() + paper.spur()))
            self.assertIn(ONCE, paper.ring())


class MendsPapers(unittest.TestCase):
    """Promises 35 and 69: rows and flows that are bent."""

    def check(self, plant, rows, flow):
        expected = mends_holds(plant, rows, flow)
        self.assertIs(Mends(rows, flow).holds(plant), expected, (plant, flow))
        self.assertIs(Mends(tuple(rows), tuple(flow)).holds(plant=plant), expected)
        numbers = [row[1] for row in rows if isinstance(row, tuple) and len(row) == 2 and is_height(row[1])]
        if len(numbers) == len(rows):
            self.assertEqual(Mends(flow=flow, rows=rows).comings, max([0] + [number - 1 for number in numbers]))
        return expected

    def small_papers(self):
        return [(plant, paper) for plant, paper in papers(Mends) if len(paper.rows()) < 45]

    def test_rows_left_out_doubled_or_in_another_order(self):
        for plant, paper in self.small_papers()[:20]:
            rows, flow = paper.rows(), paper.flow()
            for bent in without_one(rows) + with_one_twice(rows) + [rows + rows, []]:
                self.assertIs(Mends(bent, flow).holds(plant), False)
            for bent in (rows[::-1], with_two_exchanged(rows)[-1]):
                self.assertIs(Mends(bent, flow).holds(plant), True)

    def test_heights_bent(self):
        held = 0
        for plant, paper in self.small_papers()[:20]:
            rows = paper.rows()
            for at, (place, height) in enumerate(rows):
                for number in (height + 1, height - 1, 0, 1, 9, -1):
                    held += self.check(plant, rows[:at] + [(place, number)] + rows[at + 1:], paper.flow())
            for more in (1, 2, -1):
                held += self.check(plant, [(place, height + more) for place, height in rows], paper.flow())
                held += self.check(plant, [(place, height and height + more) for place, height in rows], paper.flow())
        self.assertGreater(held, 10)

    def test_greater_heights_with_their_flow(self):
        plant = Plant.read("belts 1 slips 1 2 missed rooms 1 seek 0 none none clear")
        paper = mended(plant)
        self.assertEqual(paper.comings, 1)
        rows = [(place, height and height + 1) for place, height in paper.rows()]
        self.assertIs(Mends(rows, paper.flow()).holds(plant), False)
        self.assertEqual(Mends(rows, paper.flow()).comings, 2)

    def test_rows_of_other_kinds(self):
        plant, paper = self.small_papers()[3]
        rows, flow = paper.rows(), paper.flow()
        values = [(place, kind) for place, _ in rows[:1] for kind in KINDS] + [(kind, 0) for kind in KINDS] + KINDS
        values += [list(rows[0]), rows[0] + (0,), rows[0][:1], (list(rows[0][0]), 0), (rows[0],), (0, rows[0][0])]
        for value in values:
            self.check(plant, [value] + rows[1:], flow)
            self.check(plant, rows[1:] + [value], flow)
            self.assertIs(Mends([value] + rows, flow).holds(plant), False)
        bent = (((False,), ((),), -2, rows[0][0][3], 0), 0)
        self.assertIs(Mends(rows + [bent], flow).holds(plant), False)
        self.assertIs(Mends([(rows[0][0], False)] + rows[1:], flow).holds(plant), False)

    def test_places_bent(self):
        source = random.Random(125)
        for plant, paper in self.small_papers()[:12]:
            rows = paper.rows()
            for at in source.sample(range(len(rows)), min(4, len(rows))):
                for value in source.sample(bent_places(rows[at][0]), 12):
                    self.check(plant, rows[:at] + [(value, rows[at][1])] + rows[at + 1:], paper.flow())
                    self.check(plant, rows + [(value, rows[at][1])], paper.flow())

    def test_further_places_and_all_behind_them(self):
        source, held = random.Random(126), 0
        for plant, paper in self.small_papers():
            places = [place for place, _ in paper.rows()]
            bent = [place for place in bent_places(source.choice(places))
                    if is_place(plant, place) and place not in places]
            for place in source.sample(bent, min(3, len(bent))):
                held += self.check_closed(plant, paper, closed(plant, places + [place]))
        self.assertGreater(held, 15)

    def check_closed(self, plant, paper, places):
        """Check rows for the places of a paper and further ones; return whether the paper holds with them."""
        table = heights_of_places(plant, places)
        if None in table.values() or len(places) > 90:
            return False
        rows = list(table.items())
        further = len(rows) - len(paper.rows())
        for bent in without_one(rows)[-further:] + [rows[:-further] + [(place, height + 1) for place, height in
                                                                       rows[-further:]]]:
            self.check(plant, bent, paper.flow())
        for number in (-1, True, "0", None):
            self.assertIs(Mends(rows[:-1] + [(rows[-1][0], number)], paper.flow()).holds(plant), False)
        return self.check(plant, rows, paper.flow())

    def test_literal_further_place(self):
        rows, flow = mended(CLEAR).rows(), mended(CLEAR).flow()
        further = ((0,), ((-1, -1),), -2, (0,), 1)
        self.assertNotIn(further, heights(CLEAR))
        table = heights_of_places(CLEAR, closed(CLEAR, [place for place, _ in rows] + [further]))
        self.assertEqual(table[further], 2)
        self.assertIs(Mends(list(table.items()), flow).holds(CLEAR), True)
        for bent in ({**table, further: 1}, {**table, further: 3}, {**table, further: 0}, {**table, further: -1},
                     {**table, ((0,), ((0,),), -2, (0,), 1): 2}, {**table, further + (0,): 0}):
            self.assertIs(Mends(list(bent.items()), flow).holds(CLEAR), False)
        self.assertIs(Mends(rows + [(further, 2)], flow).holds(CLEAR), False)

    def test_greater_height_of_a_place_that_is_not_met(self):
        """Such a height counts among the comings, but no flow shows it."""
        plant = Plant(Line(1, slips=(0, 1)), Tracker(1))
        rows, further = mended(plant).rows(), ((0,), ((-1,),), -2, (), 1)
        for flow in ([], [ONCE], [ONCE, OUT]):
            self.assertIs(Mends(rows + [(further, 2)], flow).holds(plant), False)
        self.assertEqual(Mends(rows + [(further, 2)], []).comings, 1)

    def test_flows_bent(self):
        source, held = random.Random(127), 0
        for plant, paper in self.small_papers():
            for flow in bent_flows(source, deeds_of(plant), paper.flow(), 25):
                held += self.check(plant, paper.rows(), flow)
            for flow in [[ONCE], [ONCE, OUT], paper.flow() + [ONCE], drawn_flow(source, plant, 6)]:
                held += self.check(plant, paper.rows(), flow)
        self.assertGreater(held, 40)

    def test_flow_is_empty_where_all_heights_are_zero(self):
        plant = Plant(Line(1, slips=(0, 1)), Tracker(1))
        rows = mended(plant).rows()
        self.assertIs(Mends(rows, []).holds(plant), True)
        for flow in ([ONCE], [ONCE, OUT], [ONCE, OUT, ("pause",)], [None], [[]]):
            self.assertIs(Mends(rows, flow).holds(plant), False)

    def test_flows_of_other_kinds(self):
        plant, paper = [pair for pair in self.small_papers() if pair[1].comings][0]
        for value in KINDS:
            for flow in with_values(paper.flow(), [value]) + [[value]]:
                self.assertIs(Mends(paper.rows(), flow).holds(plant), False)

    def test_one_paper_for_two_plants(self):
        held = 0
        pairs = self.small_papers()[:30]
        for (one, paper), (other, _) in itertools.product(pairs, repeat=2):
            expected = mends_holds(other, paper.rows(), paper.flow())
            self.assertIs(paper.holds(other), expected)
            held += expected and one != other
        self.assertGreater(held, 0)

    def test_comings_of_rows_that_do_not_hold(self):
        for rows, comings in (([], 0), ([("x", 0)], 0), ([("x", 1)], 0), ([(None, 2)], 1), ([([], 7), ((), 3)], 6),
                              ([(1, -5)], 0), ([(1, 10 ** 29)], 10 ** 29 - 1), ([(True, 4), (True, 4)], 3)):
            self.assertEqual(shown(Mends(rows, []).comings), shown(comings))
            self.assertIs(Mends(rows, []).holds(CLEAR), False)

    def test_lists_are_copied_and_new(self):
        rows, flow = mended(CLEAR).rows(), mended(CLEAR).flow()
        paper, told = Mends(rows=rows, flow=flow), (list(rows), list(flow))
        rows.clear()
        flow.clear()
        for _ in range(2):
            self.assertIs(paper.holds(CLEAR), True)
            self.assertEqual((paper.rows(), paper.flow()), told)
            self.assertIs(type(paper.rows()), list)
            paper.rows().clear()
            paper.flow().append(None)
        inner = [1, [2]]
        paper = Mends([inner, (inner, 3)], [inner])
        inner[1].append(3)
        paper.rows()[0].append(4)
        paper.flow()[0][1].append(4)
        self.assertEqual((paper.rows(), paper.flow()), ([[1, [2]], ([1, [2]], 3)], [[1, [2]]]))
        self.assertEqual(paper.comings, 2)


class NeverPapers(unittest.TestCase):
    """Promise 36: flows, rings and spurs that are bent."""

    def check(self, plant, flow, ring, spur):
        expected = never_holds(plant, flow, ring, spur)
        self.assertIs(Never(flow, ring, spur).holds(plant), expected)
        self.assertIs(Never(spur=tuple(spur), ring=tuple(ring), flow=tuple(flow)).holds(plant=plant), expected)
        return expected

    def test_bent_papers(self):
        source, held = random.Random(128), 0
        lines = set()
        for plant, paper in papers(Never)[:45]:
            lines.add((len(plant.line), bool(plant.line.scans())))
            flow, ring, spur = paper.flow(), paper.ring(), paper.spur()
            for bent in bent_flows(source, deeds_of(plant), flow, 20):
                held += self.check(plant, bent, ring, spur)
            for bent in bent_flows(source, deeds_of(plant), ring, 20):
                held += self.check(plant, flow, bent, spur)
            for bent in bent_flows(source, deeds_of(plant), spur, 20):
                held += self.check(plant, flow, ring, bent)
        self.assertGreater(held, 150)
        self.assertTrue({(1, False), (2, False), (2, True)} <= lines)

    def test_papers_that_go_on(self):
        source, held = random.Random(129), 0
        for plant, paper in papers(Never)[:40]:
            flow, ring, spur = paper.flow(), paper.ring(), paper.spur()
            held += self.check(plant, flow, ring * 3, spur)
            held += self.check(plant, flow + ring, ring, spur)
            held += self.check(plant, flow, ring, ring + spur)
            self.check(plant, flow, [], spur)
            self.check(plant, flow + ring[:1], ring[1:] + ring[:1], spur)
            for _ in range(6):
                model = model_of_flow(plant, flow + spur)
                model.do(drawn_deed(source, model))
                held += self.check(plant, flow, ring, model.flow[len(flow):])
                model = model_of_flow(plant, flow + ring)
                model.do(drawn_deed(source, model))
                held += self.check(plant, flow, model.flow[len(flow):], spur)
        self.assertGreater(held, 140)

    def test_values_of_other_kinds(self):
        plant, paper = papers(Never)[0]
        flow, ring, spur = paper.flow(), paper.ring(), paper.spur()
        for value in ANY_VALUES:
            for bent in with_values(ring, [value]):
                self.assertIs(Never(flow, bent, spur).holds(plant), False)
            self.assertIs(Never(flow + [value], ring, spur).holds(plant), False)
            self.assertIs(Never(flow, ring, spur + [value]).holds(plant), False)
            self.assertIs(Never([value], [value], [value]).holds(plant), False)
        self.assertIs(Never([], [], []).holds(plant), False)

    def test_slips_in_ring_or_spur(self):
        plant = Plant.read("belts 1 slips 3 1 missed twice rooms 2 seek 0 none first keep")
        ring = [ONCE, OUT]
        flow = [ONCE, OUT]
        self.assertIs(never_holds(plant, flow, ring, [ONCE]), False)
        slipped = [("come", "missed"), ("pass", 1, "missed")]
        self.assertIs(Never(flow, slipped, [("come", "missed")]).holds(plant), False)
        self.assertIs(Never(flow, ring, [("come", "missed")]).holds(plant), False)
        late = [ONCE, ("pass", 1, "missed")] + ring
        self.assertIs(Never(late, ring, [ONCE]).holds(plant), True)
        self.assertIs(Never(late, slipped, [ONCE]).holds(plant), False)
        self.assertIs(Never(late, ring, [("come", "twice")]).holds(plant), False)

    def test_one_paper_for_two_plants(self):
        held = 0
        pairs = papers(Never)[:30]
        for (one, paper), (other, _) in itertools.product(pairs, repeat=2):
            expected = never_holds(other, paper.flow(), paper.ring(), paper.spur())
            self.assertIs(paper.holds(other), expected)
            held += expected and one != other
        self.assertGreater(held, 10)

    def test_mending_plants_have_no_never(self):
        for plant, _ in papers(Mends)[:25]:
            for _, paper in papers(Never)[:10]:
                self.assertIs(paper.holds(plant), False)

    def test_lists_are_copied_and_new(self):
        plant, told = papers(Never)[0]
        lists = [told.flow(), told.ring(), told.spur()]
        paper = Never(*lists)
        for row in lists:
            row.clear()
        for _ in range(2):
            self.assertIs(paper.holds(plant), True)
            self.assertEqual([paper.flow(), paper.ring(), paper.spur()], [told.flow(), told.ring(), told.spur()])
            for row in (paper.flow(), paper.ring(), paper.spur()):
                self.assertIs(type(row), list)
                row.clear()
        inner = [1, [2]]
        paper = Never([inner], [(inner,)], [inner])
        inner[1].append(3)
        paper.flow()[0].append(4)
        paper.ring()[0][0].append(4)
        paper.spur()[0][1].append(4)
        self.assertEqual((paper.flow(), paper.ring(), paper.spur()), ([[1, [2]]], [([1, [2]],)], [[1, [2]]]))

    def test_members_are_defined_in_the_classes(self):
        for kind, names in ((Mends, ("rows", "flow", "holds")), (Never, ("flow", "ring", "spur", "holds"))):
            for name in names + ("__init__",):
                self.assertIn(name, vars(kind))
            self.assertEqual(kind.__module__, "ownchute.mending")
        self.assertIsInstance(vars(Mends)["comings"], property)


def heights_of_places(plant, places):
    """Return the heights of all places of a list that has the places behind them, too, by their definition."""
    steps = {place: [(deed, there) for deed, _, there in steps_at(plant, place) if plain(deed)] for place in places}
    wrong = [place for place in places if not model_at(plant, place).is_right()]
    unsettled = set(wrong)
    for _ in places:
        unsettled |= {place for place in places if any(there in unsettled for _, there in steps[place])}
    table = {place: int(place in unsettled) for place in places}
    for _ in range(40):
        for place in unsettled:
            table[place] = max([1] + [max(1, table[there]) + (deed[0] == "come") for deed, there in steps[place]])
    return {place: height if height < 30 else None for place, height in table.items()}


if __name__ == "__main__":
    unittest.main()
