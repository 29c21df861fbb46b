"""How far the belief of a tracker is from being right for ever, at each place of a plant."""

from ownchute.deeds import is_plain
from ownchute.mazes import Maze, leading_to, shortest_row, within
from ownchute.places import is_right
from ownchute.surveys import charted


class Belief:
    """The places of a plant with their heights; the numbers of the places are those of their meeting."""

    def __init__(self, plant, most):
        survey = charted(plant, most)
        plain = {at: [step for step in row if is_plain(step[0])] for at, row in enumerate(survey.steps)}
        wrong = [at for at, place in enumerate(survey.met) if not is_right(plant, place)]
        unsettled = leading_to(plain, wrong)
        ends = {at: last_deeds(plain[at], unsettled) for at in unsettled}
        self._survey = survey
        self._wrong = {at: True for at in wrong}
        self._unsettled = within(plain, unsettled)
        self._maze = Maze(self._unsettled, ends, ("come",))

    def settled_places(self):
        """Return the list of the settled places, in the order of meeting."""
        return [place for at, place in enumerate(self._survey.met) if at not in self._unsettled]

    def rows(self):
        """Return the list of the pairs (place, height or None), in the order of meeting."""
        return [(place, self._height(at)) for at, place in enumerate(self._survey.met)]

    def _height(self, at):
        if at not in self._unsettled:
            return 0
        most = self._maze.greatest(at)
        return None if most is None else most + 1

    def longest_flow(self, height):
        """Return the list of the deeds of a flow that shows the height, which is the greatest one."""
        if height == 0:
            return []
        at = self._first_with(height)
        return self._survey.flow_to(at) + self._maze.longest_row(at)

    def endless_flow(self):
        """Return the lists of the deeds to a place without height, around a ring there, and on to a wrong belief."""
        at, ring = self._maze.ring(self._first_with(None))
        spur, _ = shortest_row(self._unsettled, at, self._wrong)
        return self._survey.flow_to(at), ring, spur

    def _first_with(self, height):
        heights = [self._height(at) for at in range(len(self._survey.met))]
        return heights.index(height)


def last_deeds(steps, unsettled):
    """Return the deeds from an unsettled place to the end of a row that comes to a settled place now, or ends here."""
    return [deed for deed, there in steps if there not in unsettled and deed[0] == "come"]
