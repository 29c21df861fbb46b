"""Verdicts: whether a plant is safe, with what shows it."""

from ownchute.checks import check_number
from ownchute.kinds import copied
from ownchute.places import MOST_PLACES, behind, deeds_at, first_place, is_place, tried
from ownchute.surveys import surveyed


class Verdict:
    """A verdict that says nothing of any plant."""

    WORD = "open"

    def holds(self, plant, *, strict=False):
        """Tell whether the verdict shows something of the plant."""
        return False

    @property
    def word(self):
        """The word of the verdict."""
        return self.WORD

    def __repr__(self):
        return f"Verdict({self.WORD})"


class Safe(Verdict):
    """A list of places that shows that a plant is safe."""

    WORD = "safe"

    def __init__(self, places):
        self._places = copied(list(places))

    def places(self):
        """Return the list of the places."""
        return copied(self._places)

    def holds(self, plant, *, strict=False):
        """Tell whether the list shows that the plant is safe, or strictly safe."""
        if not all([is_place(plant, place) for place in self._places]):
            return False
        known = set(self._places)
        if first_place(plant) not in known:
            return False
        for place in self._places:
            for _, there, wrong in judged_rows(plant, place, strict):
                if wrong or there not in known:
                    return False
        return True

    @property
    def word(self):
        """The word of the verdict."""
        return self.WORD

    def __repr__(self):
        return f"Verdict({self.WORD})"


class Astray(Verdict):
    """A flow that shows that a plant is not safe."""

    WORD = "astray"

    def __init__(self, flow):
        self._flow = copied(list(flow))

    def flow(self):
        """Return the list of the deeds."""
        return copied(self._flow)

    def holds(self, plant, *, strict=False):
        """Tell whether the list is a flow whose last deed shows that the plant is not safe, or not strictly safe."""
        _, words = tried(plant, self._flow)
        return len(words) > 0 and is_wrong(words[-1], strict)

    @property
    def word(self):
        """The word of the verdict."""
        return self.WORD

    def __repr__(self):
        return f"Verdict({self.WORD})"


def is_wrong(word, strict):
    """Tell whether a word of a deed, or None, shows that a plant is not safe, or not strictly safe."""
    if strict:
        return word in ("other", "on")
    return word == "other"


def judged_rows(plant, place, strict):
    """Return for each deed at a place the tuple (deed, place behind it, whether its word is wrong)."""
    rows = []
    for deed in deeds_at(plant, place):
        there, word = behind(plant, place, deed)
        rows.append((deed, there, is_wrong(word, strict)))
    return rows


def judged(plant, *, strict=False, most=5000):
    """Return a Safe with the places in the order of meeting, or an Astray with a shortest flow."""
    check_number(most, 1, MOST_PLACES)
    survey = surveyed(first_place(plant), lambda place: judged_rows(plant, place, strict), most)
    if survey.ending is not None:
        return Astray(survey.ending)
    return Safe(survey.met)
