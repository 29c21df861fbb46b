"""Lags: how far a record can lag behind the parcel that it sends."""

from ownchute.errors import InvalidDeed, NotNow
from ownchute.kinds import copied, is_number
from ownchute.marks import Marks
from ownchute.runs import Run


class Lag:
    """A lag, and a flow whose last deed has it."""

    def __init__(self, number, flow):
        self._number = number
        self._flow = copied(list(flow))

    @property
    def number(self):
        """The lag."""
        return self._number

    def flow(self):
        """Return the list of the deeds."""
        return copied(self._flow)

    def holds(self, plant):
        """Tell whether the last deed of the flow sends a parcel with just this lag."""
        lag = last_lag(plant, self._flow)
        return lag is not None and is_number(self._number, lag, lag)


class Endless:
    """A flow to a place, a ring there, and the rest up to a sending whose lag grows with each time around the ring."""

    def __init__(self, flow, ring, rest):
        self._flow = copied(list(flow))
        self._ring = copied(list(ring))
        self._rest = copied(list(rest))

    def flow(self):
        """Return the list of the deeds to the place."""
        return copied(self._flow)

    def ring(self):
        """Return the list of the deeds around the ring."""
        return copied(self._ring)

    def rest(self):
        """Return the list of the deeds from the place to the sending."""
        return copied(self._rest)

    def holds(self, plant):
        """Tell whether the lags behind no ring, one and two of them ascend with equal differences."""
        lags = [last_lag(plant, self._flow + self._ring * many + self._rest) for many in range(3)]
        if None in lags:
            return False
        return lags[0] < lags[1] and lags[1] - lags[0] == lags[2] - lags[1]


def last_lag(plant, flow):
    """Return the lag of the parcel that the last deed of a list of any values sends by a label, or None."""
    run = Run(plant)
    try:
        run.do(*flow)
    except (InvalidDeed, NotNow):
        return None
    if not flow or flow[-1][:2] != ("pass", plant.line.last):
        return None
    sent = list(run.sendings())
    label, record, _ = sent[-1]
    return None if record is None else label - record


def lagged(plant, *, most=5000):
    """Return a Lag with the greatest lag, or an Endless."""
    marks = Marks(plant, most)
    greatest = marks.greatest()
    if greatest is None:
        flow, ring, rest = marks.endless_flow()
        return Endless(flow, ring, rest)
    if greatest == 0:
        return Lag(0, own_flow(plant))
    return Lag(greatest, marks.longest_flow())


def own_flow(plant):
    """Return the list of the deeds by which the first parcel comes and leaves, sent by its own label."""
    return [("come", "once")] + [("pass", point, "once") for point in range(1, plant.line.last + 1)]
