"""Runs: flows with chutes, step by step."""

from ownchute.checks import check_word
from ownchute.deeds import SIGHTS, check_deeds
from ownchute.errors import InvalidChute, InvalidPoint, NothingLeft, NotNow
from ownchute.kinds import is_number
from ownchute.places import GONE
from ownchute.scenes import BLANK, NO_SWAP, first_scene, is_possible, moved, renumbered

MOST_CHUTES = 9


class Step:
    """What one call did: its deeds, the chutes of the parcels that came, what was sent, the scene behind it."""

    def __init__(self, deeds, chutes, sent, scene):
        self.deeds = deeds
        self.chutes = chutes
        self.sent = sent
        self.scene = scene


class Run:
    """A flow whose parcels have chutes, with steps that can be undone and redone."""

    def __init__(self, plant):
        self._plant = plant
        self._done = []
        self._undone = []
        self._chutes = []
        self._busy = False

    def come(self, chute, *, sight="once"):
        """Let a parcel come that has the chute, and return its label."""
        check_chute(chute)
        check_word(sight, SIGHTS)
        self._take((("come", sight),), chute)
        return len(self._chutes) - 1

    def pass_on(self, point, *, sight="once"):
        """Let the first parcel of a belt pass the point at its end; return the chute down which it goes, or None."""
        if not is_number(point, 1, self._plant.line.last):
            raise InvalidPoint(point)
        check_word(sight, SIGHTS)
        self._take((("pass", point, sight),), 1)
        sent = self._done[-1].sent
        return sent[0][2] if sent else None

    def wait(self):
        """Make a pause."""
        self._take((("pause",),), 1)

    def do(self, *deeds, chute=1):
        """Do deeds as one step, all or none; the parcels that come have the chute."""
        check_chute(chute)
        check_deeds(self._plant, deeds)
        self._take(deeds, chute)

    def _take(self, deeds, chute):
        self._busy = True
        try:
            step = self._step(deeds, chute)
            self._done.append(step)
            self._chutes.extend(step.chutes)
            self._undone = []
        finally:
            self._busy = False

    def _step(self, deeds, chute):
        plant = self._plant
        scene = self._scene()
        chutes = list(self._chutes)
        sent = []
        for at, deed in enumerate(deeds):
            if not is_possible(plant, scene, deed):
                raise NotNow(at)
            label = label_of_parcel(scene, deed, len(chutes))
            scene, found = moved(plant, scene, deed, label)
            if deed[0] == "come":
                chutes.append(chute)
            if deed[:2] == ("pass", plant.line.last):
                sent.append(sending(label, found, chutes))
        return Step(deeds, chutes[len(self._chutes):], sent, scene)

    def _scene(self):
        return self._done[-1].scene if self._done else first_scene(self._plant)

    @property
    def plant(self):
        """The plant."""
        return self._plant

    def belts(self):
        """Return for each belt the list of the labels of its parcels, the first parcel first."""
        belts = []
        end = len(self._chutes)
        for count in self._scene()[0]:
            belts.append(list(range(end - count, end)))
            end -= count
        return belts

    def queues(self):
        """Return for each belt the list of its records, None for a blank."""
        return [[label_or_none(label) for label in queue] for queue in self._scene()[1]]

    @property
    def swap(self):
        """The label with which a swap is open, or None."""
        label = self._scene()[2]
        return None if label == NO_SWAP else label

    @property
    def busy(self):
        """Whether deeds are being done."""
        return self._busy

    def place(self):
        """Return the place."""
        scene = self._scene()
        came = len(self._chutes)
        gone = came - sum(scene[0])
        return renumbered(scene, lambda label: code_of(label, came, gone))

    def flow(self):
        """Return the list of the deeds done."""
        return [deed for step in self._done for deed in step.deeds]

    def sendings(self):
        """Yield the tuples (label of the parcel, record or None, chute or None), in their order."""
        for step in list(self._done):
            yield from step.sent

    def astray(self):
        """Return the ascending list of the parcels that went down a chute other than their own."""
        # Parcels stay in their order, so they leave with ascending labels.
        sent = [row for step in self._done for row in step.sent]
        return [label for label, _, chute in sent if chute is not None and chute != self._chutes[label]]

    def undo(self):
        """Take back the last step."""
        if not self._done:
            raise NothingLeft()
        step = self._done.pop()
        self._undone.append(step)
        del self._chutes[len(self._chutes) - len(step.chutes):]

    def redo(self):
        """Do again the step that was taken back last."""
        if not self._undone:
            raise NothingLeft()
        step = self._undone.pop()
        self._done.append(step)
        self._chutes.extend(step.chutes)

    def history(self):
        """Return the pair of the numbers of steps that can be undone and redone."""
        return len(self._done), len(self._undone)

    def twin(self):
        """Return an independent run with the same plant and steps."""
        other = Run(self._plant)
        other._done = list(self._done)
        other._undone = list(self._undone)
        other._chutes = list(self._chutes)
        return other

    def __eq__(self, other):
        return (isinstance(other, Run) and self._plant == other._plant and self._chutes == other._chutes
                and self.flow() == other.flow())

    def __len__(self):
        return len(self._chutes)

    def __repr__(self):
        return f"Run({len(self._chutes)} parcels)"


def check_chute(value):
    """Refuse any value but a chute."""
    if not is_number(value, 1, MOST_CHUTES):
        raise InvalidChute(value)


def label_of_parcel(scene, deed, came):
    """Return the label of the parcel of a deed, where so many parcels came."""
    if deed[0] != "pass":
        return came
    return came - sum(scene[0][:deed[1]])


def label_or_none(number):
    """Return a label, or None for a blank."""
    return None if number == BLANK else number


def sending(label, found, chutes):
    """Return the tuple that tells how a parcel is sent by what was found."""
    if found == BLANK:
        return label, None, None
    return label, found, chutes[found]


def code_of(label, came, gone):
    """Return the code of a label, where so many parcels came and so many of them are gone."""
    if label < 0:
        return label
    return GONE if label < gone else came - 1 - label
