"""Searches that go breadth-first from deed to deed: what they meet, and by which deeds."""

from ownchute.checks import check_number
from ownchute.errors import TooMany
from ownchute.places import MOST_PLACES, behind, deeds_at, first_place


class Survey:
    """What a search met, in the order of meeting; the numbers of what was met count from 0.

    steps has for each number the list of the pairs (deed, number of what is behind it). ending is the list of the
    deeds up to the one that ended the search, or None if it went on to its end.
    """

    def __init__(self, first):
        self.met = [first]
        self.steps = []
        self.ending = None
        self._numbers = {first: 0}
        self._ways = [None]

    def look(self, at, rows, most):
        """Go along the rows (deed, what is behind it, whether it ends the search) of what has the number."""
        steps = []
        for deed, there, ends in rows:
            if ends:
                self.ending = self.flow_to(at) + [deed]
                return
            if there not in self._numbers:
                self._meet(at, deed, there, most)
            steps.append((deed, self._numbers[there]))
        self.steps.append(steps)

    def _meet(self, at, deed, there, most):
        if len(self.met) == most:
            raise TooMany(most)
        self._numbers[there] = len(self.met)
        self._ways.append((at, deed))
        self.met.append(there)

    def flow_to(self, at):
        """Return the list of the deeds by which the search met what has the number."""
        deeds = []
        while self._ways[at] is not None:
            at, deed = self._ways[at]
            deeds.append(deed)
        return deeds[::-1]


def surveyed(first, rows_at, most):
    """Return the survey from the first one on, where a function gives the rows for all that is met."""
    survey = Survey(first)
    at = 0
    while at < len(survey.met) and survey.ending is None:
        survey.look(at, rows_at(survey.met[at]), most)
        at += 1
    return survey


def charted(plant, most):
    """Return the survey of all places to which flows lead."""
    check_number(most, 1, MOST_PLACES)
    return surveyed(first_place(plant), lambda place: rows_of_place(plant, place), most)


def rows_of_place(plant, place):
    """Return for each deed at a place a row that does not end a search."""
    return [(deed, behind(plant, place, deed)[0], False) for deed in deeds_at(plant, place)]
