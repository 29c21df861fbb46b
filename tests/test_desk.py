"""Promises 54 and 55: desks, the answers to their lines, and the hall behind them."""

import random
import unittest

from ownchute.choices import is_offer
from ownchute.comparing import Same, compared
from ownchute.desk import Desk
from ownchute.errors import BeltError, TooMany, UnknownName, Unlike
from ownchute.halls import Hall
from ownchute.lags import Lag, lagged
from ownchute.mending import Mends, mended
from ownchute.plants import Plant
from ownchute.verdicts import judged
from tests.drawn import shown
from tests.hall_model import LARGE, TEXTS, HallModel, assert_told, told
from tests.test_halls import hall_with
from tests.test_plants import offers_of

FORMS = {"keep": (3, 10 ** 6), "change": (4, 5), "drop": (2, 2), "undo": (1, 1), "redo": (1, 1), "names": (1, 1),
         "show": (2, 2), "word": (2, 2), "mend": (2, 2), "lag": (2, 2), "alike": (3, 3)}
NUMBERS = {str(number): number for number in range(1000)}
NAMES = ("a", "b", "c", "none", "x")


def offer_text(offer):
    return " ".join("none" if item is None else str(item) for item in offer)


def offer_of(words):
    """Return the offer that has the words."""
    items = tuple(NUMBERS.get(word, word) for word in words)
    return ("stretch", None) if items == ("stretch", "none") else items


class DeskModel:
    """Answers by the model of a hall, and by the functions of the package for the plants."""

    def __init__(self):
        self.hall = HallModel()

    def answer(self, line):
        words = line.split(" ")
        fewest, most = FORMS.get(words[0], (1, 0))
        if "\n" in line or "" in words or not fewest <= len(words) <= most:
            return "unknown"
        try:
            return getattr(self, words[0])(*words[1:])
        except (BeltError, UnknownName) as error:
            return f"error {error.code}"

    def done(self, command):
        error = self.hall.error([command])
        if error:
            return f"error {error[0].__name__}"
        self.hall.apply([command])
        return "done"

    def keep(self, name, *words):
        return self.done(("keep", name, " ".join(words)))

    def change(self, name, *words):
        return self.done(("change", name, offer_of(words)))

    def drop(self, name):
        return self.done(("drop", name))

    def undo(self):
        return "error NothingLeft" if self.hall.undo() else "done"

    def redo(self):
        return "error NothingLeft" if self.hall.redo() else "done"

    def names(self):
        return " ".join(sorted(self.hall.plants)) or "none"

    def show(self, name):
        if name not in self.hall.plants:
            raise UnknownName(name)
        return self.hall.plants[name]

    def plant(self, name):
        return Plant.read(self.show(name))

    def word(self, name):
        word = judged(self.plant(name)).word
        self.hall.word_of(name, word)
        return word

    def mend(self, name):
        paper = mended(self.plant(name))
        return str(paper.comings) if isinstance(paper, Mends) else "never"

    def lag(self, name):
        paper = lagged(self.plant(name))
        return str(paper.number) if isinstance(paper, Lag) else "endless"

    def alike(self, one, other):
        return "alike" if isinstance(compared(self.plant(one), self.plant(other)), Same) else "unlike"


def drawn_line_of_words(source):
    """Return a line that has mostly a right form."""
    name, other = source.choice(NAMES), source.choice(NAMES)
    word = source.choice(("keep", "keep", "keep", "change", "change", "drop", "undo", "redo", "names", "show", "word",
                          "word", "mend", "lag", "alike"))
    rest = {"keep": [name, source.choice(TEXTS)], "change": [name, offer_text(source.choice(offers_of(2)))],
            "undo": [], "redo": [], "names": [], "alike": [name, other]}
    return " ".join([word] + rest.get(word, [name]))


def bent_line(source, line):
    """Return the line with a word left out, added, doubled or empty, in another word, or with a line feed."""
    words = line.split(" ")
    at = source.randrange(len(words))
    others = ["", "x", "none", "keep", "A", "0", "007", "1", "seek", "\n", "a\n"]
    choice = source.randrange(6)
    if choice == 0:
        del words[at]
    elif choice == 1:
        words.insert(at, source.choice(others))
    elif choice == 2:
        words.insert(at, words[at])
    elif choice == 3:
        words[at] = source.choice(others)
    elif choice == 4:
        words.append(source.choice(others))
    else:
        words[at] = words[at].upper()
    return " ".join(words)


class DrawnLines(unittest.TestCase):

    def test_lines(self):
        answers = set()
        for seed in range(30):
            source = random.Random(seed + 301)
            hall, model = Hall(), DeskModel()
            desk, log = Desk(hall), []
            for _ in range(60):
                line = drawn_line_of_words(source)
                if source.random() < 0.3:
                    line = bent_line(source, line)
                answer = source.choice((desk.say, desk))(line)
                self.assertEqual(shown(answer), shown(model.answer(line)), line)
                log.append((line, answer))
                answers.add(answer)
                assert_told(self, hall, model.hall)
                self.assertIs(desk.hall, hall)
                self.assertEqual((desk.log(), len(desk), repr(desk)), (log, len(log), f"Desk({len(log)} lines)"))
        self.assertTrue({"done", "unknown", "none", "safe", "astray", "never", "0", "alike", "error UnknownName",
                         "error DuplicateName", "error InvalidText", "error InvalidName", "error InvalidOffer",
                         "error NothingLeft", "error Unlike"} <= answers)

    def test_two_desks_of_one_hall(self):
        for seed in range(10):
            source = random.Random(seed + 341)
            hall, model = Hall(), DeskModel()
            desks, logs = [Desk(hall), Desk(hall=hall)], [[], []]
            for _ in range(50):
                at, line = source.randrange(2), drawn_line_of_words(source)
                logs[at].append((line, desks[at].say(line=line)))
                self.assertEqual(logs[at][-1][1], model.answer(line))
                assert_told(self, hall, model.hall)
                self.assertEqual([desk.log() for desk in desks], logs)


class Literals(unittest.TestCase):

    def check(self, desk, *rows):
        for line, answer in rows:
            self.assertEqual(shown(desk.say(line)), shown(answer), line)
            self.assertEqual(shown(desk(line=line) if answer != "done" else answer), shown(answer))

    def test_answers(self):
        desk = Desk(Hall())
        self.check(desk, ("names", "none"), (f"keep b {TEXTS[0]}", "done"), (f"keep a {TEXTS[1]}", "done"),
                   ("names", "a b"), ("show a", TEXTS[1]), ("word a", "safe"), ("word b", "astray"), ("mend a", "1"),
                   ("mend b", "never"), ("lag a", "0"), ("lag b", "1"), ("alike a b", "unlike"), ("alike a a", "alike"),
                   ("change b room 1 1", "done"), ("alike a b", "alike"), ("change b stretch 3", "done"),
                   ("show b", TEXTS[1].replace("missed", "missed stretch 3")), ("alike b a", "error Unlike"),
                   ("change b stretch none", "done"), ("undo", "done"), ("redo", "done"), ("redo", "error NothingLeft"),
                   ("drop a", "done"), ("names", "b"), ("drop a", "error UnknownName"))
        desk = Desk(hall_with("belts 1 slips 1 1 missed rooms 1 seek 0 none first keep"))
        self.check(desk, ("lag a", "endless"), ("mend a", "1"), ("word a", "astray"))

    def test_errors(self):
        desk = Desk(hall_with(TEXTS[0], LARGE, limit=2))
        self.check(desk, ("keep A x", "error InvalidName"), ("keep a x", "error DuplicateName"),
                   ("keep c x", "error Full"), ("change c x y", "error UnknownName"),
                   ("change a x y", "error InvalidOffer"), ("change a seek 4", "error InvalidOffer"),
                   ("word b", "error TooMany"), ("mend b", "error TooMany"), ("lag b", "error TooMany"),
                   ("alike b b", "error TooMany"), ("alike a b", "error Unlike"), ("alike a x", "error UnknownName"),
                   ("alike x a", "error UnknownName"), ("show x", "error UnknownName"),
                   ("word x", "error UnknownName"), ("mend x", "error UnknownName"), ("lag X", "error UnknownName"))
        desk.hall.set_limit(3)
        self.check(desk, ("keep c x", "error InvalidText"), (f"keep c {TEXTS[0]} x", "error InvalidText"))
        self.assertEqual(desk.hall.history(), (2, 0))
        self.assertEqual(desk.hall.kept(), [])

    def test_unknown_lines(self):
        desk = Desk(hall_with(TEXTS[0]))
        before = told(desk.hall)
        for line in ("", " ", "\n", "keep", "keep a", "keep b ", "keep  b x", " names", "names ", "names a", "Names",
                     "name", "drop", "drop a a", "undo a", "redo 1", "show", "show a a", "word", "word a b", "mend",
                     "mend a b", "lag", "lag a a", "alike", "alike a", "alike a a a", "change", "change a",
                     "change a seek", "change a room 1 1 1", "change a stretch", "change a  seek 1", "change  a seek 1",
                     "names\n", "\nnames", "drop a\n", "drop\na", f"keep b {TEXTS[1]}\n", f"keep b {TEXTS[1]} ",
                     f"keep\nb {TEXTS[1]}", f"plant b {TEXTS[1]}", "desk", "apply", "limit 3", "a" * 3000, " " * 3000):
            self.check(desk, (line, "unknown"))
        self.assertEqual(told(desk.hall), before)

    def test_numbers_in_offers(self):
        desk = Desk(hall_with(TEXTS[0]))
        for word, answer in (("1", "done"), ("0", "done"), ("3", "done"), ("4", "error InvalidOffer"),
                             ("01", "error InvalidOffer"), ("00", "error InvalidOffer"), ("001", "error InvalidOffer"),
                             ("+1", "error InvalidOffer"), ("-1", "error InvalidOffer"), ("1.", "error InvalidOffer"),
                             ("999", "error InvalidOffer"), ("1000", "error InvalidOffer"),
                             ("9" * 2000, "error InvalidOffer"), ("one", "error InvalidOffer"),
                             ("none", "error InvalidOffer"), ("None", "error InvalidOffer")):
            self.check(desk, (f"change a seek {word}", answer))
        self.check(desk, ("change a stretch none", "done"), ("change a stretch 0", "error InvalidOffer"),
                   ("change a stretch None", "error InvalidOffer"), ("change a stretch none 1", "error InvalidOffer"),
                   ("change a empty none", "done"), ("change a strange none", "done"), ("change a room 1 none",
                                                                                        "error InvalidOffer"))
        self.assertEqual(desk.hall.plant_of("a").tracker.strange, "none")

    def test_each_offer(self):
        for text in (TEXTS[0], TEXTS[4], "belts 1 1 1 slips 1 4 rooms 1 1 1 seek 0 none first clear"):
            plant = Plant.read(text)
            for offer in offers_of(3):
                desk = Desk(hall_with(text))
                right = is_offer(plant, offer)
                answer = desk.say(f"change a {offer_text(offer)}")
                self.assertEqual(answer, "done" if right else "error InvalidOffer")
                self.assertEqual(desk.say("show a"), plant.with_offers(offer).text if right else text)

    def test_plant_called_none(self):
        desk = Desk(Hall())
        self.check(desk, (f"keep none {TEXTS[0]}", "done"), ("names", "none"), ("show none", TEXTS[0]),
                   ("drop none", "done"), ("names", "none"), ("show none", "error UnknownName"))


class Desks(unittest.TestCase):

    def test_this_very_hall(self):
        hall = hall_with(TEXTS[0])
        desk = Desk(hall)
        self.assertIs(desk.hall, hall)
        hall.apply(("keep", "b", TEXTS[1]))
        self.assertEqual(desk("names"), "a b")
        desk("drop a")
        self.assertEqual((hall.names(), hall.history()), (["b"], (3, 0)))
        hall.undo()
        self.assertEqual(desk("redo"), "done")
        self.assertEqual(desk("word b"), "safe")
        self.assertEqual((hall.kept(), hall.computed), (["b"], 1))

    def test_log(self):
        desk = Desk(Hall())
        self.assertEqual((desk.log(), len(desk), repr(desk)), ([], 0, "Desk(0 lines)"))
        desk("x")
        self.assertEqual((desk.log(), len(desk), repr(desk)), ([("x", "unknown")], 1, "Desk(1 lines)"))
        desk.log().clear()
        desk.say("names")
        self.assertEqual(shown(desk.log()), shown([("x", "unknown"), ("names", "none")]))
        self.assertIs(type(desk.log()), list)

    def test_mend_and_lag_keep_no_words(self):
        desk = Desk(hall_with(TEXTS[0], TEXTS[1]))
        before = told(desk.hall)
        for line in ("mend a", "lag a", "alike a b", "show a", "names"):
            desk(line)
            self.assertEqual(told(desk.hall), before)

    def test_large_plants(self):
        plant = Plant.read(LARGE)
        for call in (judged, mended, lagged):
            self.assertRaises(TooMany, call, plant)
        self.assertRaises(Unlike, compared, plant, Plant.read(TEXTS[0]))

    def test_members_are_defined_in_the_class(self):
        for name in ("__init__", "say", "__call__", "log", "__len__", "__repr__"):
            self.assertIn(name, vars(Desk))
        self.assertIsInstance(vars(Desk)["hall"], property)
        self.assertEqual(Desk.__module__, "ownchute.desk")


if __name__ == "__main__":
    unittest.main()
