"""A second telling of halls, with all plants of all steps as texts, to compare with."""

from ownchute.choices import is_offer
from ownchute.errors import (DuplicateName, Full, InvalidCommand, InvalidLimit, InvalidName, InvalidOffer, InvalidText,
                             NothingLeft, UnknownName)
from tests.drawn import shown
from tests.test_plants import changed_fields, fields_of_text, plant_of

TEXTS = (
    "belts 1 slips 1 4 missed rooms 2 seek 0 none first clear",
    "belts 1 slips 1 4 missed rooms 1 seek 0 none first clear",
    "belts 1 slips 0 1 rooms 1 seek 0 none first clear",
    "belts 2 slips 0 1 rooms 1 seek 0 blank none keep",
    "belts 1 1 scans 1 slips 1 2 twice stretch 2 rooms 2 2 seek 1 none first clear",
    "belts 2 1 slips 1 3 missed stretch 1 rooms 2 2 seek 0 none first clear",
)
# Its word needs more than 5000 places.
LARGE = "belts 3 3 3 scans 2 slips 2 6 twice swapped rooms 4 2 3 seek 0 blank first clear"


class HallModel:

    def __init__(self, limit=6):
        self.limit = limit
        self.plants = {}
        self.before = []
        self.behind = []
        self.words = {}
        self.computed = 0

    def copy(self):
        other = HallModel(self.limit)
        other.plants, other.words, other.computed = dict(self.plants), dict(self.words), self.computed
        other.before, other.behind = list(self.before), list(self.behind)
        return other

    def error(self, commands):
        """Return the error that the commands raise and the value that it carries, None if they raise none."""
        for at, command in enumerate(commands):
            if not (isinstance(command, tuple) and command and isinstance(command[0], str)
                    and {"keep": 3, "change": 3, "drop": 2}.get(command[0]) == len(command)):
                return InvalidCommand, at
        plants = dict(self.plants)
        for command in commands:
            error = self.done_or_error(plants, command)
            if error:
                return error
        return None

    def done_or_error(self, plants, command):
        """Do a command to the plants, or return its error."""
        name = command[1]
        there = isinstance(name, str) and name in plants
        if command[0] == "keep":
            if not (isinstance(name, str) and 1 <= len(name) <= 8 and not name.strip("abcdefghijklmnopqrstuvwxyz")):
                return InvalidName, name
            if there:
                return DuplicateName, name
            if len(plants) >= self.limit:
                return Full, self.limit
            if not isinstance(command[2], str) or fields_of_text(command[2]) is None:
                return InvalidText, 0
            plants[name] = command[2]
            return None
        if not there:
            return UnknownName, name
        if command[0] == "drop":
            del plants[name]
        elif not is_offer(plant_of(fields_of_text(plants[name])), command[2]):
            return InvalidOffer, 0
        else:
            plants[name] = plant_of(changed_fields(fields_of_text(plants[name]), command[2])).text
        return None

    def apply(self, commands):
        assert self.error(commands) is None
        if commands:
            plants = dict(self.plants)
            for command in commands:
                self.done_or_error(plants, command)
            self.before.append(self.plants)
            self.behind.clear()
            self.stand(plants)

    def stand(self, plants):
        self.words = {name: word for name, word in self.words.items() if self.plants[name] == plants.get(name)}
        self.plants = plants

    def undo(self):
        if not self.before:
            return NothingLeft
        self.behind.append(self.plants)
        self.stand(self.before.pop())
        return None

    def redo(self):
        if not self.behind:
            return NothingLeft
        self.before.append(self.plants)
        self.stand(self.behind.pop())
        return None

    def limit_error(self, value):
        right = isinstance(value, int) and not isinstance(value, bool) and max(1, len(self.plants)) <= value <= 12
        return None if right else InvalidLimit

    def word_of(self, name, word):
        """Keep a word that was told."""
        if name not in self.words:
            self.words[name] = word
            self.computed += 1

    def told(self):
        """Return all that a hall has to tell."""
        names = sorted(self.plants)
        return (names, [self.plants[name] for name in names], sorted(self.words), self.computed, self.limit,
                (len(self.before), len(self.behind)), False, len(names), f"Hall({len(names)} plants)")


def told(hall):
    """Return all that a hall tells without changing."""
    return (hall.names(), [hall.plant_of(name).text for name in hall.names()], hall.kept(), hall.computed, hall.limit,
            hall.history(), hall.busy, len(hall), repr(hall))


def assert_told(case, hall, model):
    case.assertEqual(shown(told(hall)), shown(model.told()))
