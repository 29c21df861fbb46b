"""Promises 43 to 45: whether two plants send alike."""

import itertools
import random
import unittest

from ownchute.comparing import Parts, Same, compared
from ownchute.errors import InvalidNumber, TooMany, Unlike
from ownchute.lines import Line
from ownchute.places import is_place, words_of
from ownchute.plants import Plant
from ownchute.trackers import Tracker
from tests.bending import KINDS, bent_flows, bent_places, with_one_twice, with_values, without_one
from tests.drawn import assert_refused, drawn_flow, drawn_line, drawn_plants, drawn_tracker, shown
from tests.model import Model, deeds_of
from tests.oracle import played_flow, steps_at
from tests.test_plants import changed_fields, fields_of, offers_of, plant_of

ONCE, OUT = ("come", "once"), ("pass", 1, "once")


def rows_at(one, other, pair):
    """Return for each deed at a pair of places the tuple (deed, whether its words differ, pair behind it)."""
    return [(deed, word != word_beside, (there, there_beside)) for (deed, word, there), (_, word_beside, there_beside)
            in zip(steps_at(one, pair[0]), steps_at(other, pair[1]))]


def met_pairs(one, other, most):
    """Return the pairs in the order of meeting and the length of the flow that ends the search, or None for it.

    None instead of both where one pair more is met than most.
    """
    first = Model(one).place(), Model(other).place()
    pairs, far = [first], {first: 0}
    for pair in pairs:
        for _, parts, behind in rows_at(one, other, pair):
            if parts:
                return pairs, far[pair] + 1
            if behind not in far:
                if len(pairs) == most:
                    return None
                far[behind] = far[pair] + 1
                pairs.append(behind)
    return pairs, None


def same_holds(one, other, pairs):
    if one.line != other.line:
        return False
    for pair in pairs:
        if not isinstance(pair, tuple) or len(pair) != 2 or not is_place(one, pair[0]) or not is_place(other, pair[1]):
            return False
    if (Model(one).place(), Model(other).place()) not in pairs:
        return False
    for pair in pairs:
        if [step[0] for step in steps_at(one, pair[0])] != [step[0] for step in steps_at(other, pair[1])]:
            return False
        if any(parts or behind not in pairs for _, parts, behind in rows_at(one, other, pair)):
            return False
    return True


def parts_holds(one, other, flow):
    if one.line != other.line:
        return False
    models, models_beside = played_flow(one, flow), played_flow(other, flow)
    if models is None or models_beside is None or not flow:
        return False
    words = [word_lists(models), word_lists(models_beside)]
    return words[0][:-1] == words[1][:-1] and words[0][-1] != words[1][-1]


def word_lists(models):
    """Return for each deed the list of the words behind it."""
    return [model.words for model in models]


def drawn_pairs(seed, many):
    """Return drawn pairs of plants with equal lines; most of them differ in a rule or two."""
    source = random.Random(seed)
    pairs = []
    for plant in drawn_plants(seed, many):
        offers = source.sample([offer for offer in offers_of(len(plant.line))
                                if offer[0] not in ("scan", "eye", "stretch")], source.randint(0, 2))
        fields = fields_of(plant)
        for offer in offers:
            fields = changed_fields(fields, offer)
        other = plant_of(fields)
        if source.random() < 0.2:
            other = Plant(plant.line, drawn_tracker(source, len(plant.line)))
        pairs.append((plant, other))
    return pairs


def small_pairs(seed, many, most):
    """Return the drawn pairs that are compared with at most so many pairs of places."""
    return [pair for pair in drawn_pairs(seed, many) if met_pairs(*pair, most) is not None]


PAIRS = small_pairs(201, 240, 120)


class Compared(unittest.TestCase):

    def test_drawn_plants(self):
        kinds = {Same: 0, Parts: 0}
        for one, other in PAIRS:
            pairs, length = met_pairs(one, other, 120)
            for paper, turned in ((compared(one, other), False), (compared(other, one), True)):
                kinds[type(paper)] += 1
                self.assertIs(type(paper), Same if length is None else Parts)
                if length is None:
                    expected = [(beside, here) if turned else (here, beside) for here, beside in pairs]
                    self.assertEqual(shown(paper.pairs()), shown(expected))
                else:
                    self.assertEqual(len(paper.flow()), length)
                    self.check_parts(one, other, paper.flow())
                self.assertIs(paper.holds(one, other) if not turned else paper.holds(other, one), True)
        self.assertGreater(min(kinds.values()), 40)

    def check_parts(self, one, other, flow):
        words, words_beside = words_of(one, flow), words_of(other, flow)
        self.assertEqual(len(words), len(words_beside))
        self.assertEqual(words[:-1], words_beside[:-1])
        self.assertNotEqual(words[-1], words_beside[-1])

    def test_flows_of_plants_that_send_alike(self):
        source = random.Random(202)
        for one, other in PAIRS:
            if isinstance(compared(one, other), Same):
                for _ in range(5):
                    flow = drawn_flow(source, one, 40)
                    self.assertEqual(words_of(one, flow), words_of(other, flow))

    def test_plant_and_itself(self):
        for one, _ in PAIRS[:40]:
            if met_pairs(one, one, 200):
                paper = compared(one, Plant.read(one.text))
                self.assertEqual([here for here, _ in paper.pairs()], [beside for _, beside in paper.pairs()])
                self.assertEqual(one.text, Plant.read(one.text).text)

    def test_texts(self):
        text = "belts 2 slips 1 3 missed rooms 2 seek 0 none first clear"
        for bent, kind in ((text, Same), (text.replace("none", "blank"), Same), (text.replace("seek 0", "seek 3"), Same),
                           (text.replace("first", "none"), Same), (text.replace("clear", "keep"), Parts),
                           (text.replace("rooms 2", "rooms 1"), Parts), (text.replace("rooms 2", "rooms 4"), Parts)):
            one, other = Plant.read(text), Plant.read(bent)
            for paper in (compared(one, other), compared(other, one)):
                self.assertIs(type(paper), kind, bent)
                if kind is Parts:
                    self.assertEqual(words_of(one, paper.flow())[:-1], words_of(other, paper.flow())[:-1])
                    self.assertNotEqual(words_of(one, paper.flow()), words_of(other, paper.flow()))
        for line, rules, kind in (("scans 1 slips", "blank first", Same), ("scans 1 slips", "none none", Same),
                                  ("slips", "none none", Same), ("slips", "blank first", Parts)):
            one = Plant.read(f"belts 1 1 {line} 1 3 missed rooms 2 2 seek 0 none first clear")
            other = Plant.read(f"belts 1 1 {line} 1 3 missed rooms 2 2 seek 0 {rules} clear")
            self.assertIs(type(compared(one, other)), kind)
            self.assertIs(compared(one, other).holds(one, other), True)

    def test_too_many_where_one_pair_more_is_met(self):
        found = {True: 0, False: 0}
        for one, other in PAIRS[:90]:
            many = len(met_pairs(one, other, 20000)[0])
            for most in {1, 2, 3, many - 1, many, many + 1, many // 2, 20000} - {0}:
                told = met_pairs(one, other, most)
                found[told is None] += 1
                if told is None:
                    assert_refused(self, TooMany, most, compared, one, other, most=most)
                else:
                    self.assertIs(type(compared(one, other, most=most)), Same if told[1] is None else Parts)
        self.assertGreater(min(found.values()), 100)

    def test_five_thousand_if_nothing_else_is_said(self):
        plant = Plant(Line(3, 3, 3, slips=(3, 6)), Tracker(4, 4, 4))
        assert_refused(self, TooMany, 5000, compared, plant, plant)
        assert_refused(self, TooMany, 4999, compared, plant, plant, most=4999)

    def test_unlike(self):
        source = random.Random(203)
        for one, other in drawn_pairs(203, 60):
            line = drawn_line(source, source.randint(1, 3))
            unlike = Plant(line, Tracker(*[2] * len(line)))
            for most in (5000, 0, None):
                if line != one.line:
                    assert_refused(self, Unlike, None, compared, one, unlike, most=most)
                    assert_refused(self, Unlike, None, compared, unlike, one, most=most)
            for field, value in (("stretch", 7), ("words", ["twice"]), ("slips", (3, 5)), ("belts", [1, 2, 1])):
                if fields_of(one)[field] != value and (field != "belts" or len(one.line) == 3):
                    line = one.line.changed(**{field: value})
                    assert_refused(self, Unlike, None, compared, one, Plant(line, other.tracker))

    def test_wrong_numbers(self):
        one, other = PAIRS[0]
        for value in [0, -1, 20001, 10 ** 29, True, False, None, "1", "", (), [], (1,), [1]]:
            assert_refused(self, InvalidNumber, value, compared, one, other, most=value)


class SamePapers(unittest.TestCase):

    def papers(self):
        """Return tuples (one plant, other plant, list of pairs), small ones, of plants that differ first."""
        found = []
        for one, other in PAIRS:
            paper = compared(one, other)
            if isinstance(paper, Same) and len(paper.pairs()) < 50:
                found.append((one, other, paper.pairs()))
        return sorted(found, key=lambda row: row[0] == row[1])

    def check(self, one, other, pairs):
        expected = same_holds(one, other, pairs)
        self.assertIs(Same(pairs).holds(one, other), expected)
        self.assertIs(Same(pairs=tuple(pairs)).holds(other=other, one=one), expected)
        return expected

    def test_left_out_doubled_or_in_another_order(self):
        for one, other, pairs in self.papers()[:25]:
            self.assertIs(Same(pairs).holds(one, other), True)
            for bent in without_one(pairs) + [[]]:
                self.assertIs(Same(bent).holds(one, other), False)
            for bent in (pairs + pairs, pairs[::-1], with_one_twice(pairs)[-1]):
                self.assertIs(Same(bent).holds(one, other), True)

    def test_pairs_that_are_not_met(self):
        source = random.Random(204)
        for one, other, pairs in self.papers()[:25]:
            for (here, _), (_, beside) in zip(source.choices(pairs, k=12), source.choices(pairs, k=12)):
                self.check(one, other, pairs + [(here, beside)])
                at = source.randrange(len(pairs))
                self.check(one, other, pairs[:at] + [(here, beside)] + pairs[at + 1:])

    def test_pairs_of_further_places(self):
        source, held = random.Random(205), 0
        for one, other, pairs in self.papers()[:30]:
            for here, beside in source.sample(pairs, min(3, len(pairs))):
                for value in source.sample(bent_places(here), 6):
                    self.check(one, other, pairs + [(value, beside)])
                    self.check(one, other, pairs + [(here, value)])
                    if is_place(one, value) and is_place(other, value):
                        held += self.check(one, other, self.closed(one, other, pairs + [(value, value)]))
        self.assertGreater(held, 10)

    def closed(self, one, other, pairs):
        found = list(dict.fromkeys(pairs))
        for pair in found:
            found += [behind for _, _, behind in dict.fromkeys(rows_at(one, other, pair)) if behind not in found]
        return list(dict.fromkeys(found))

    def test_pairs_of_unlike_counts(self):
        plant = Plant(Line(3, slips=(0, 1)), Tracker(3))
        pairs = compared(plant, plant).pairs()
        one, two = ((1,), ((0,),), -2, (), 1), ((2,), ((1, 0),), -2, (), 1)
        self.assertIs(Same(pairs + [(one, two)]).holds(plant, plant), False)
        self.assertIs(Same(pairs + [(two, one)]).holds(plant, plant), same_holds(plant, plant, pairs + [(two, one)]))
        wide = Plant(Line(1, slips=(0, 1)), Tracker(2))
        pairs = compared(wide, wide).pairs()
        empty, other_empty = ((0,), ((),), -2, (), 0), ((0,), ((),), -2, (), 1)
        self.assertIs(Same(pairs + [(empty, other_empty)]).holds(wide, wide), False)

    def test_pairs_of_other_kinds(self):
        one, other, pairs = self.papers()[0]
        here, beside = pairs[0]
        values = KINDS + [list(pairs[0]), (here,), (here, beside, here), (here, list(beside)), here, (here, None),
                          (None, beside), ([], []), ((), ()), [here, beside]]
        for value in values:
            for bent in (pairs + [value], [value] + pairs, pairs[1:] + [value], [value]):
                self.assertIs(Same(bent).holds(one, other), False)
        bent = (here[:4] + (False,), beside)
        self.assertEqual(bent, pairs[0])
        self.assertIs(Same([bent] + pairs[1:]).holds(one, other), False)
        self.assertIs(Same(pairs + [bent]).holds(one, other), False)

    def test_unlike_lines_and_other_plants(self):
        held = 0
        papers = self.papers()[:22]
        for (one, other, pairs), (third, fourth, _) in itertools.product(papers, repeat=2):
            for two in ((one, fourth), (third, other), (third, fourth), (other, one)):
                if one.line != two[0].line or one.line != two[1].line:
                    self.assertIs(Same(pairs).holds(*two), same_holds(*two, pairs))
                else:
                    held += self.check(*two, pairs)
        self.assertGreater(held, 20)

    def test_plants_that_differ(self):
        for one, other in PAIRS:
            if isinstance(compared(one, other), Parts):
                pairs, _ = met_pairs(one, other, 200)
                self.assertIs(Same(pairs).holds(one, other), False)

    def test_list_is_copied_and_new(self):
        one, other, told = self.papers()[0]
        pairs = list(told)
        paper = Same(pairs)
        pairs.clear()
        for _ in range(2):
            self.assertIs(paper.holds(one, other), True)
            self.assertEqual(paper.pairs(), told)
            self.assertIs(type(paper.pairs()), list)
            paper.pairs().clear()
        inner = [1, [2]]
        paper = Same((inner, (inner,)))
        inner[1].append(3)
        paper.pairs()[0].append(4)
        self.assertEqual(paper.pairs(), [[1, [2]], ([1, [2]],)])


class PartsPapers(unittest.TestCase):

    def papers(self):
        rows = [(one, other, compared(one, other)) for one, other in PAIRS]
        return [(one, other, paper.flow()) for one, other, paper in rows if isinstance(paper, Parts)]

    def check(self, one, other, flow):
        expected = parts_holds(one, other, flow)
        self.assertIs(Parts(flow).holds(one, other), expected)
        self.assertIs(Parts(flow=tuple(flow)).holds(one=one, other=other), expected)
        return expected

    def test_bent_flows(self):
        source, held = random.Random(206), 0
        for one, other, flow in self.papers()[:50]:
            for bent in bent_flows(source, deeds_of(one), flow, 25):
                held += self.check(one, other, bent)
            self.assertIs(Parts(flow).holds(other, one), True)
            self.assertIs(Parts(flow).holds(one, one), False)
        self.assertGreater(held, 80)

    def test_flows_that_go_on(self):
        source, held = random.Random(207), 0
        for one, other, _ in self.papers()[:50]:
            flow = drawn_flow(source, one, 20)
            for at in range(len(flow) + 1):
                held += self.check(one, other, flow[:at])
        self.assertGreater(held, 10)

    def test_values_of_other_kinds(self):
        one, other, flow = self.papers()[0]
        for value in KINDS:
            for bent in with_values(flow, [value]) + [[value]]:
                self.assertIs(Parts(bent).holds(one, other), False)
        self.assertIs(Parts([]).holds(one, other), False)

    def test_unlike_lines_and_other_plants(self):
        held = 0
        for (one, other, flow), (third, fourth, _) in itertools.product(self.papers()[:25], repeat=2):
            for two in ((one, third), (third, fourth), (other, fourth)):
                held += self.check(*two, flow)
        self.assertGreater(held, 20)
        line = Line(1, words=["missed"], slips=(1, 2))
        flow = [ONCE, ("pass", 1, "missed"), ONCE, OUT]
        one, other = Plant(line, Tracker(1)), Plant(line, Tracker(2))
        self.assertIs(Parts(flow).holds(one, other), True)
        self.assertIs(Parts(flow).holds(one, Plant(line.changed(stretch=5), Tracker(2))), False)
        self.assertIs(Parts(flow).holds(Plant(line.changed(slips=(1, 1)), Tracker(1)), other), False)

    def test_list_is_copied_and_new(self):
        one, other, told = self.papers()[0]
        flow = list(told)
        paper = Parts(flow)
        flow.clear()
        for _ in range(2):
            self.assertIs(paper.holds(one, other), True)
            self.assertEqual(paper.flow(), told)
            self.assertIs(type(paper.flow()), list)
            paper.flow().clear()
        inner = [1, [2]]
        paper = Parts([inner, (inner,)])
        inner[1].append(3)
        paper.flow()[0].append(4)
        self.assertEqual(paper.flow(), [[1, [2]], ([1, [2]],)])

    def test_members_are_defined_in_the_classes(self):
        for kind, names in ((Same, ("pairs", "holds")), (Parts, ("flow", "holds"))):
            for name in names + ("__init__",):
                self.assertIn(name, vars(kind))
            self.assertEqual(kind.__module__, "ownchute.comparing")


if __name__ == "__main__":
    unittest.main()
