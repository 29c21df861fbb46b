"""Promises 56 and 60: calls by name and by position over the whole package, and lists that are copied and new."""

import importlib
import inspect
import unittest

from ownchute.choices import greatest_stretch, is_offer, least_sets
from ownchute.comparing import Parts, Same, compared
from ownchute.deeds import flow_text, is_deed, read_flow
from ownchute.desk import Desk
from ownchute.halls import Hall
from ownchute.lags import Endless, Lag, lagged
from ownchute.lines import Line
from ownchute.mending import Mends, Never, heights, mended, settled
from ownchute.pages import read_page, write_page
from ownchute.places import behind, deeds_at, first_place, is_place, is_right, met_places, walked, words_of
from ownchute.plants import Plant
from ownchute.runs import Run
from ownchute.trackers import Tracker
from ownchute.verdicts import Astray, Safe, judged
from tests.drawn import shown
from tests.hall_model import TEXTS, told

GIVEN = {"WrongCount": "given", "InvalidNumber": "given", "InvalidWord": "given", "InvalidPoint": "given",
         "InvalidField": "name", "InvalidText": "at", "InvalidDeed": "at", "NotNow": "at", "InvalidChute": "given",
         "InvalidOffer": "at", "Unlike": "", "TooMany": "most", "InvalidName": "given", "DuplicateName": "name",
         "Full": "most", "InvalidLimit": "given", "InvalidCommand": "at", "InvalidPage": "at", "UnknownName": "name",
         "NothingLeft": ""}
FUNCTIONS = {
    "deeds": {"is_deed": "plant, value", "flow_text": "flow", "read_flow": "plant, text"},
    "places": {"first_place": "plant", "is_place": "plant, value", "deeds_at": "plant, place",
               "behind": "plant, place, deed", "is_right": "plant, place", "walked": "plant, flow",
               "words_of": "plant, flow", "met_places": "plant, *, most=5000"},
    "verdicts": {"judged": "plant, *, strict=False, most=5000"},
    "mending": {"settled": "plant, *, most=5000", "heights": "plant, *, most=5000", "mended": "plant, *, most=5000"},
    "lags": {"lagged": "plant, *, most=5000"},
    "choices": {"is_offer": "plant, value", "least_sets": "plant, offers, *, strict=False, most=5000",
                "greatest_stretch": "plant, *, strict=False, most=5000"},
    "comparing": {"compared": "one, other, *, most=5000"},
    "pages": {"write_page": "hall", "read_page": "text"},
}
METHODS = {
    "lines": {"Line": {"__init__": "*belts, scans=(), slips=(1, 4), words=('missed', 'twice', 'swapped'), stretch=None",
                       "belts": "", "scans": "", "words": "", "is_scanner": "point", "changed": "**fields",
                       "__eq__": "other", "__len__": "", "__repr__": ""}},
    "trackers": {"Tracker": {"__init__": "*rooms, seek=0, empty='none', strange='first', pause='clear'", "rooms": "",
                             "changed": "**fields", "__eq__": "other", "__len__": "", "__repr__": ""}},
    "plants": {"Plant": {"__init__": "line, tracker", "with_offers": "*offers", "__eq__": "other", "__repr__": ""}},
    "runs": {"Run": {"__init__": "plant", "come": "chute, *, sight='once'", "pass_on": "point, *, sight='once'",
                     "wait": "", "do": "*deeds, chute=1", "belts": "", "queues": "", "place": "", "flow": "",
                     "sendings": "", "astray": "", "undo": "", "redo": "", "history": "", "twin": "",
                     "__eq__": "other", "__len__": "", "__repr__": ""}},
    "verdicts": {"Verdict": {"holds": "plant, *, strict=False", "__repr__": ""},
                 "Safe": {"__init__": "places", "places": "", "holds": "plant, *, strict=False", "__repr__": ""},
                 "Astray": {"__init__": "flow", "flow": "", "holds": "plant, *, strict=False", "__repr__": ""}},
    "mending": {"Mends": {"__init__": "rows, flow", "rows": "", "flow": "", "holds": "plant"},
                "Never": {"__init__": "flow, ring, spur", "flow": "", "ring": "", "spur": "", "holds": "plant"}},
    "lags": {"Lag": {"__init__": "number, flow", "flow": "", "holds": "plant"},
             "Endless": {"__init__": "flow, ring, rest", "flow": "", "ring": "", "rest": "", "holds": "plant"}},
    "comparing": {"Same": {"__init__": "pairs", "pairs": "", "holds": "one, other"},
                  "Parts": {"__init__": "flow", "flow": "", "holds": "one, other"}},
    "halls": {"Hall": {"__init__": "*, limit=6", "set_limit": "value", "apply": "*commands", "undo": "", "redo": "",
                       "history": "", "names": "", "plant_of": "name", "word_of": "name", "kept": "", "twin": "",
                       "__contains__": "name", "__eq__": "other", "__len__": "", "__repr__": ""}},
    "desk": {"Desk": {"__init__": "hall", "say": "line", "__call__": "line", "log": "", "__len__": "",
                      "__repr__": ""}},
}
PROPERTIES = {
    "lines": {"Line": ("slips", "stretch", "last")}, "trackers": {"Tracker": ("seek", "empty", "strange", "pause")},
    "plants": {"Plant": ("line", "tracker", "text")}, "runs": {"Run": ("plant", "swap", "busy")},
    "verdicts": {"Verdict": ("word",), "Safe": ("word",), "Astray": ("word",)}, "mending": {"Mends": ("comings",)},
    "lags": {"Lag": ("number",)}, "halls": {"Hall": ("limit", "busy", "computed")}, "desk": {"Desk": ("hall",)},
}
PLANT = Plant.read(TEXTS[0])
OTHER = Plant.read(TEXTS[1])
ONCE = ("come", "once")


def module(name):
    return importlib.import_module(f"ownchute.{name}")


class Interface(unittest.TestCase):

    def test_errors(self):
        for name, parameter in GIVEN.items():
            kind = vars(module("errors"))[name]
            self.assertEqual(kind.__module__, "ownchute.errors")
            self.assertEqual([one for one in inspect.signature(kind).parameters], [parameter] if parameter else [])
            if parameter:
                for value in (1, "a", None, (1, [2])):
                    one, other = kind(value), kind(**{parameter: value})
                    self.assertEqual(shown(vars(one)), shown(vars(other)))
                    self.assertEqual(vars(one), {"code": name, parameter: value})

    def test_functions(self):
        for file, functions in FUNCTIONS.items():
            for name, parameters in functions.items():
                function = vars(module(file))[name]
                self.assertEqual(function.__module__, f"ownchute.{file}")
                self.assertEqual(str(inspect.signature(function)), f"({parameters})", name)

    def test_methods(self):
        for file, classes in METHODS.items():
            for kind_name, methods in classes.items():
                kind = vars(module(file))[kind_name]
                self.assertEqual(kind.__module__, f"ownchute.{file}")
                for name, parameters in methods.items():
                    told_parameters = list(inspect.signature(vars(kind)[name]).parameters.values())[1:]
                    without_self = inspect.Signature(told_parameters)
                    self.assertEqual(str(without_self), f"({parameters})", (kind_name, name))

    def test_properties(self):
        for file, classes in PROPERTIES.items():
            for kind_name, names in classes.items():
                for name in names:
                    self.assertIsInstance(vars(vars(module(file))[kind_name])[name], property)
        self.assertEqual(str(inspect.signature(Plant.read)), "(text)")


class ByNameAndByPosition(unittest.TestCase):

    def same(self, one, other):
        self.assertEqual(shown(one), shown(other))

    def test_values(self):
        line = Line(1, 2, scans=(), slips=(1, 4), words=("missed", "twice", "swapped"), stretch=None)
        self.assertTrue(line == Line(1, 2))
        self.assertTrue(Tracker(1, seek=0, empty="none", strange="first", pause="clear") == Tracker(1))
        self.assertTrue(Plant(line=line, tracker=Tracker(1, 1)) == Plant(line, Tracker(1, 1)))
        self.same(line.is_scanner(point=0), line.is_scanner(0))
        self.assertTrue(Plant.read(text=TEXTS[0]) == PLANT)
        self.assertTrue(line.changed(belts=[3]) == Line(3))

    def test_deeds_and_places(self):
        place, flow = first_place(PLANT), [ONCE, ("pass", 1, "once")]
        for call, values in ((is_deed, {"plant": PLANT, "value": ONCE}), (flow_text, {"flow": flow}),
                             (read_flow, {"plant": PLANT, "text": "come once\n"}), (first_place, {"plant": PLANT}),
                             (is_place, {"plant": PLANT, "value": place}), (deeds_at, {"plant": PLANT, "place": place}),
                             (behind, {"plant": PLANT, "place": place, "deed": ONCE}),
                             (is_right, {"plant": PLANT, "place": place}), (walked, {"plant": PLANT, "flow": flow}),
                             (words_of, {"plant": PLANT, "flow": flow}), (is_offer, {"plant": PLANT, "value": ONCE})):
            turned = dict(reversed(list(values.items())))
            self.same(call(**turned), call(*values.values()))
        self.same(list(met_places(plant=PLANT)), list(met_places(PLANT, most=5000)))

    def test_decided(self):
        self.same(judged(plant=PLANT).flow(), judged(PLANT, strict=False, most=5000).flow())
        self.same(judged(most=5000, strict=True, plant=OTHER).flow(), judged(OTHER, strict=True).flow())
        for call in (settled, heights):
            self.same(call(plant=PLANT), call(PLANT, most=5000))
        self.same(mended(plant=OTHER).rows(), mended(OTHER, most=5000).rows())
        self.same(lagged(plant=PLANT).number, lagged(PLANT, most=5000).number)
        offers = [("room", 1, 1), ("stretch", 1)]
        self.same(least_sets(offers=offers, plant=PLANT), least_sets(PLANT, offers, strict=False, most=5000))
        self.same(greatest_stretch(plant=PLANT), greatest_stretch(PLANT, strict=False, most=5000))
        self.same(compared(other=OTHER, one=PLANT).flow(), compared(PLANT, OTHER, most=5000).flow())

    def test_papers(self):
        one, other = judged(OTHER), judged(PLANT)
        self.same(Safe(places=one.places()).holds(plant=OTHER), Safe(one.places()).holds(OTHER, strict=False))
        self.same(Astray(flow=other.flow()).holds(plant=PLANT), Astray(other.flow()).holds(PLANT, strict=False))
        paper = mended(OTHER)
        self.assertIs(Mends(flow=paper.flow(), rows=paper.rows()).holds(plant=OTHER), True)
        paper = mended(PLANT)
        self.assertIs(Never(spur=paper.spur(), ring=paper.ring(), flow=paper.flow()).holds(plant=PLANT), True)
        paper = lagged(PLANT)
        self.assertIs(Lag(flow=paper.flow(), number=paper.number).holds(plant=PLANT), True)
        self.assertIs(Endless(rest=[ONCE], ring=[], flow=[]).holds(plant=PLANT), False)
        paper = compared(PLANT, PLANT)
        self.assertIs(Same(pairs=paper.pairs()).holds(other=PLANT, one=PLANT), True)
        self.assertIs(Parts(flow=compared(PLANT, OTHER).flow()).holds(other=OTHER, one=PLANT), True)

    def test_runs_halls_pages_and_desks(self):
        one, other = Run(plant=PLANT), Run(PLANT)
        self.same([one.come(chute=3), one.pass_on(point=1)], [other.come(3, sight="once"), other.pass_on(1, sight="once")])
        one.do(ONCE)
        other.do(ONCE, chute=1)
        self.assertTrue(one == other)
        one, other = Hall(), Hall(limit=6)
        for hall in (one, other):
            hall.apply(("keep", "a", TEXTS[0]))
        one.set_limit(value=3)
        other.set_limit(3)
        self.same([one.plant_of(name="a"), one.word_of(name="a")], [other.plant_of("a"), other.word_of("a")])
        self.same(told(one), told(other))
        self.same(write_page(hall=one), write_page(other))
        self.same(told(read_page(text=write_page(one))), told(read_page(write_page(other))))
        one, other = Desk(hall=one), Desk(other)
        self.same([one.say(line="word a"), one(line="x")], [other.say("word a"), other("x")])


def cleared(make, *lists):
    """Return what is made of the lists, which are cleared behind the call."""
    made = make(*lists)
    for row in lists:
        for item in row:
            if isinstance(item, list):
                item.clear()
        row.clear()
    return made


class Lists(unittest.TestCase):
    """Lists that are passed are copied; lists that are returned are new, and so are the lists in them."""

    def check(self, made, names, expected):
        """Check twice that the methods tell the expected lists, whatever is done to those that they told."""
        for _ in range(2):
            for name, rows in zip(names, expected):
                rows_told = getattr(made, name)()
                self.assertEqual(shown(rows_told), shown(rows))
                for item in rows_told:
                    if isinstance(item, list):
                        item.append(0)
                rows_told.append(None)
                rows_told.reverse()

    def test_papers(self):
        for make, names in ((Safe, ("places",)), (Astray, ("flow",)), (Mends, ("rows", "flow")),
                            (Never, ("flow", "ring", "spur")), (Endless, ("flow", "ring", "rest")), (Same, ("pairs",)),
                            (Parts, ("flow",)), (lambda flow: Lag(1, flow), ("flow",))):
            rows = [[ONCE, ["x", 1], (2, 3)] for _ in names]
            self.check(cleared(make, *[list(row[:1]) + [list(row[1])] + row[2:] for row in rows]), names, rows)
            inner = [1, [2, [3]]]
            made = make(*[(inner, (inner,)) for _ in names])
            inner[1][1].clear()
            inner.clear()
            self.check(made, names, [[[1, [2, [3]]], ([1, [2, [3]]],)] for _ in names])

    def test_papers_that_hold(self):
        paper = mended(OTHER)
        self.assertIs(cleared(Mends, paper.rows(), paper.flow()).holds(OTHER), True)
        paper = compared(PLANT, OTHER)
        self.assertIs(cleared(Parts, paper.flow()).holds(PLANT, OTHER), True)
        self.assertIs(cleared(Same, compared(PLANT, PLANT).pairs()).holds(PLANT, PLANT), True)
        paper = lagged(PLANT)
        self.assertIs(cleared(lambda flow: Lag(1, flow), paper.flow()).holds(PLANT), True)
        plant = Plant.read("belts 1 slips 1 1 missed rooms 1 seek 0 none first keep")
        paper = lagged(plant)
        self.assertIs(cleared(Endless, paper.flow(), paper.ring(), paper.rest()).holds(plant), True)

    def test_lines_and_trackers(self):
        line = cleared(lambda scans, words: Line(1, 2, 3, scans=scans, words=words), [2, 1], ["missed", "swapped"])
        self.check(line, ("belts", "scans", "words"), ([1, 2, 3], [1, 2], ["missed", "swapped"]))
        line = cleared(lambda belts, scans: line.changed(belts=belts, scans=scans), [3, 3], [1])
        self.check(line, ("belts", "scans", "words"), ([3, 3], [1], ["missed", "swapped"]))
        tracker = cleared(lambda rooms: Tracker(1).changed(rooms=rooms), [4, 2])
        self.check(tracker, ("rooms",), ([4, 2],))
        self.assertTrue(Plant(line, tracker) == Plant(Line(3, 3, scans=[1], words=["missed", "swapped"]),
                                                     Tracker(4, 2)))

    def test_runs_halls_and_desks(self):
        run = Run(PLANT)
        run.do(*[ONCE, ("pass", 1, "missed"), ONCE])
        self.check(run, ("belts", "queues", "flow", "astray"),
                   ([[1]], [[0, 1]], [ONCE, ("pass", 1, "missed"), ONCE], []))
        hall = Hall()
        hall.apply(("keep", "a", TEXTS[0]))
        hall.word_of("a")
        self.check(hall, ("names", "kept"), (["a"], ["a"]))
        desk = Desk(hall)
        desk("names")
        self.check(desk, ("log",), ([("names", "a")],))

    def test_arguments_are_not_changed(self):
        offers = [("room", 1, 1), ("stretch", 1)]
        least_sets(PLANT, offers)
        self.assertEqual(offers, [("room", 1, 1), ("stretch", 1)])
        flow = [ONCE, ("pass", 1, "once")]
        walked(PLANT, flow)
        flow_text(flow)
        self.assertEqual(flow, [ONCE, ("pass", 1, "once")])
        places = judged(OTHER).places()
        before = list(places)
        Safe(places).holds(OTHER)
        self.assertEqual(places, before)

    def test_results_are_new(self):
        for call in (lambda: settled(PLANT), lambda: least_sets(PLANT, [("room", 1, 1)]), lambda: walked(PLANT, [ONCE]),
                     lambda: deeds_at(PLANT, first_place(PLANT)), lambda: read_flow(PLANT, "come once\n"),
                     lambda: heights(PLANT)):
            before = shown(call())
            call().clear()
            self.assertEqual(shown(call()), before)


if __name__ == "__main__":
    unittest.main()
