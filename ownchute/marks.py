"""Records of parcels that have left: where they go, up to the parcels that they send.

Such records have one and the same code. To follow one of them, a mark stands in its place.
"""

from ownchute.mazes import Maze, leading_to, shortest_row, within
from ownchute.places import GONE, stepped
from ownchute.scenes import replaced
from ownchute.surveys import charted

MARK = -3


class Marks:
    """The ways of the records of parcels that have left, as far as they send a parcel.

    Parcels leave in the order of their labels. So the lag of a record is the number of the parcels that leave behind
    its own one, up to the parcel that it sends.
    """

    def __init__(self, plant, most):
        survey = charted(plant, most)
        marked = [(at, place) for at in range(len(survey.met)) for place in marked_places(survey.met[at])]
        numbers = {place: number for number, (_, place) in enumerate(marked)}
        steps = {}
        ends = {}
        for number, (at, place) in enumerate(marked):
            deeds = [deed for deed, _ in survey.steps[at]]
            steps[number] = marked_steps(plant, place, deeds, numbers)
            sending = sending_deeds(plant, place, deeds)
            if sending:
                ends[number] = sending[:1]
        self._survey = survey
        self._starts = [at for at, _ in marked]
        self._steps = within(steps, leading_to(steps, list(ends)))
        self._ends = ends
        self._maze = Maze(self._steps, ends, ("pass", plant.line.last))

    def greatest(self):
        """Return the greatest lag of such a record, 0 if none of them sends a parcel, None if there is no greatest."""
        lags = [self._maze.greatest(number) for number in self._steps]
        return None if None in lags else max([0] + lags)

    def longest_flow(self):
        """Return the list of the deeds of a flow whose last deed sends a parcel with the greatest lag."""
        greatest = self.greatest()
        number = [at for at in self._steps if self._maze.greatest(at) == greatest][0]
        return self._flow_to(number) + self._maze.longest_row(number)

    def endless_flow(self):
        """Return the lists of the deeds to a place, around a ring there, and from there to a sending."""
        start = [number for number in self._steps if self._maze.greatest(number) is None][0]
        number, ring = self._maze.ring(start)
        row, end = shortest_row(self._steps, number, self._ends)
        return self._flow_to(number), ring, row + self._ends[end]

    def _flow_to(self, number):
        return self._survey.flow_to(self._starts[number])


def marked_places(place):
    """Return the list of the place with a mark for each one of the records of parcels that have left in its queues.

    A label with which a swap is open comes into a queue before another parcel leaves.
    """
    counts, queues, swap, slips, comings = place
    found = []
    for belt, queue in enumerate(queues):
        for at, code in enumerate(queue):
            if code == GONE:
                marked = replaced(queues, belt, replaced(queue, at, MARK))
                found.append((counts, marked, swap, slips, comings))
    return found


def marked_steps(plant, place, deeds, numbers):
    """Return the pairs (deed, number of the marked place behind it) for the deeds behind which the mark is there."""
    found = []
    for deed in deeds:
        there, _, _ = stepped(plant, place, deed)
        if there in numbers:
            found.append((deed, numbers[there]))
    return found


def sending_deeds(plant, place, deeds):
    """Return the list of the deeds at a marked place by which the mark sends a parcel."""
    last = ("pass", plant.line.last)
    return [deed for deed in deeds if deed[:2] == last and stepped(plant, place, deed)[2] == MARK]
