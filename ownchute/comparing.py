"""Comparing: whether two plants with equal lines send alike."""

from ownchute.checks import check_number
from ownchute.errors import Unlike
from ownchute.kinds import copied
from ownchute.places import MOST_PLACES, behind, deeds_at, first_place, is_place, tried
from ownchute.surveys import surveyed


class Same:
    """A list of pairs of places that shows that two plants send alike."""

    def __init__(self, pairs):
        self._pairs = copied(list(pairs))

    def pairs(self):
        """Return the list of the pairs."""
        return copied(self._pairs)

    def holds(self, one, other):
        """Tell whether the list shows that the plants send alike."""
        if one.line != other.line:
            return False
        if not all([is_pair_of_places(one, other, pair) for pair in self._pairs]):
            return False
        known = set(self._pairs)
        if first_pair(one, other) not in known:
            return False
        for pair in self._pairs:
            if deeds_at(one, pair[0]) != deeds_at(other, pair[1]):
                return False
            for _, pair_behind, parts in compared_rows(one, other, pair):
                if parts or pair_behind not in known:
                    return False
        return True


class Parts:
    """A flow for which only the words of the last deed differ."""

    def __init__(self, flow):
        self._flow = copied(list(flow))

    def flow(self):
        """Return the list of the deeds."""
        return copied(self._flow)

    def holds(self, one, other):
        """Tell whether the list is a flow of both plants for which only the words of the last deed differ."""
        if one.line != other.line:
            return False
        _, words = tried(one, self._flow)
        _, other_words = tried(other, self._flow)
        return len(words) > 0 and words[:-1] == other_words[:-1] and words[-1] != other_words[-1]


def first_pair(one, other):
    """Return the pair of the first places of two plants."""
    return first_place(one), first_place(other)


def is_pair_of_places(one, other, value):
    """Tell whether any value is a pair of tuples of the form of places of two plants."""
    if not isinstance(value, tuple) or len(value) != 2:
        return False
    return is_place(one, value[0]) and is_place(other, value[1])


def compared_rows(one, other, pair):
    """Return for each deed at a pair of places the tuple (deed, pair behind it, whether its words differ)."""
    here, beside = pair
    rows = []
    for deed in deeds_at(one, here):
        there, word = behind(one, here, deed)
        there_beside, word_beside = behind(other, beside, deed)
        rows.append((deed, (there, there_beside), word != word_beside))
    return rows


def compared(one, other, *, most=5000):
    """Return a Same with the pairs in the order in which they are met, or a Parts with a shortest flow."""
    if one.line != other.line:
        raise Unlike()
    check_number(most, 1, MOST_PLACES)
    survey = surveyed(first_pair(one, other), lambda pair: compared_rows(one, other, pair), most)
    if survey.ending is not None:
        return Parts(survey.ending)
    return Same(survey.met)
