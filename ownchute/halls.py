"""Halls: plants that are kept by names, with steps that can be undone and redone."""

from ownchute.commands import check_commands, check_there, commanded, has_name
from ownchute.errors import InvalidLimit, NothingLeft
from ownchute.kinds import is_number
from ownchute.verdicts import judged

DEFAULT_LIMIT = 6


class Hall:
    """Plants by names, as many as a limit allows, and the words that were asked for."""

    MOST = 12

    def __init__(self, *, limit=DEFAULT_LIMIT):
        self._plants = {}
        self._done = []
        self._undone = []
        self._words = {}
        self._computed = 0
        self._busy = False
        self.set_limit(limit)

    @property
    def limit(self):
        """The number of plants from which on no further one is kept."""
        return self._limit

    @limit.setter
    def limit(self, value):
        self.set_limit(value)

    def set_limit(self, value):
        """Assign the limit."""
        if not is_number(value, max(1, len(self._plants)), Hall.MOST):
            raise InvalidLimit(value)
        self._limit = value

    def apply(self, *commands):
        """Do commands as one step, all or none; without commands nothing happens."""
        check_commands(commands)
        if commands:
            self._take(commands)

    def _take(self, commands):
        self._busy = True
        try:
            plants = self._plants
            for command in commands:
                plants = commanded(plants, command, self._limit)
            self._done.append(self._plants)
            self._undone = []
            self._stand(plants)
        finally:
            self._busy = False

    def _stand(self, plants):
        """Have other plants, with the words of those that are equal to the ones before."""
        before = self._plants
        words = self._words
        self._words = {name: words[name] for name in words if name in plants and plants[name] == before[name]}
        self._plants = plants

    def undo(self):
        """Take back the last step."""
        if not self._done:
            raise NothingLeft()
        self._undone.append(self._plants)
        self._stand(self._done.pop())

    def redo(self):
        """Do again the step that was taken back last."""
        if not self._undone:
            raise NothingLeft()
        self._done.append(self._plants)
        self._stand(self._undone.pop())

    def history(self):
        """Return the pair of the numbers of steps that can be undone and redone."""
        return len(self._done), len(self._undone)

    @property
    def busy(self):
        """Whether commands are being done."""
        return self._busy

    def names(self):
        """Return the ascending list of the names."""
        return sorted(self._plants)

    def plant_of(self, name):
        """Return the plant that has the name."""
        check_there(self._plants, name)
        return self._plants[name]

    def word_of(self, name):
        """Return the word of the plant that has the name, and keep it."""
        plant = self.plant_of(name)
        if name not in self._words:
            word = judged(plant).word
            self._words[name] = word
            self._computed += 1
        return self._words[name]

    def kept(self):
        """Return the ascending list of the names with kept words."""
        return sorted(self._words)

    @property
    def computed(self):
        """How many words were computed."""
        return self._computed

    def twin(self):
        """Return an independent hall with the same plants, limit, steps, kept words and computed."""
        other = Hall(limit=self._limit)
        # The dicts of plants are never changed, so that both halls can have them.
        other._plants = self._plants
        other._done = list(self._done)
        other._undone = list(self._undone)
        other._words = dict(self._words)
        other._computed = self._computed
        return other

    def __contains__(self, name):
        return has_name(self._plants, name)

    def __eq__(self, other):
        return isinstance(other, Hall) and self._plants == other._plants

    def __len__(self):
        return len(self._plants)

    def __repr__(self):
        return f"Hall({len(self._plants)} plants)"


def hall_of(plants):
    """Return a hall without steps that has the plants of a dict from names, with the limit that they need."""
    hall = Hall(limit=max(DEFAULT_LIMIT, len(plants)))
    hall._plants = dict(plants)
    return hall
