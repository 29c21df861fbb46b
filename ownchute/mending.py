"""Mending: whether the belief of a tracker becomes right for ever, and how many parcels come until then."""

from ownchute.beliefs import Belief
from ownchute.deeds import is_plain
from ownchute.kinds import copied, is_number
from ownchute.places import behind, deeds_at, first_place, is_place, is_right, tried


class Mends:
    """The heights of places, and a flow that shows the greatest one."""

    def __init__(self, rows, flow):
        self._rows = copied(list(rows))
        self._flow = copied(list(flow))

    def rows(self):
        """Return the list of the pairs (place, height)."""
        return copied(self._rows)

    def flow(self):
        """Return the list of the deeds."""
        return copied(self._flow)

    @property
    def comings(self):
        """The greatest height less 1, but not below 0."""
        return greatest_height(self._rows, 1) - 1

    def holds(self, plant):
        """Tell whether the rows show that the plant mends, and the flow that no less than the comings are needed."""
        if not are_rows(plant, self._rows):
            return False
        told = {place: height for place, height in self._rows}
        if len(told) < len(self._rows) or first_place(plant) not in told:
            return False
        if not all([is_bounded(plant, place, told) for place in told]):
            return False
        if greatest_height(self._rows, 0) == 0:
            return not self._flow
        return self._shows_comings(plant, told)

    def _shows_comings(self, plant, told):
        places, _ = tried(plant, self._flow)
        if not places:
            return False
        slips = [at for at, deed in enumerate(self._flow) if not is_plain(deed)]
        start = slips[-1] + 1 if slips else 0
        if 0 in [told[place] for place in places[start:-1]]:
            return False
        return len([deed for deed in self._flow[start:] if deed[0] == "come"]) == self.comings


class Never:
    """A flow to a place, a ring of plain deeds there, and a spur from there to a place with a wrong belief."""

    def __init__(self, flow, ring, spur):
        self._flow = copied(list(flow))
        self._ring = copied(list(ring))
        self._spur = copied(list(spur))

    def flow(self):
        """Return the list of the deeds to the place."""
        return copied(self._flow)

    def ring(self):
        """Return the list of the deeds around the ring."""
        return copied(self._ring)

    def spur(self):
        """Return the list of the deeds to the wrong belief."""
        return copied(self._spur)

    def holds(self, plant):
        """Tell whether the deeds show that the plant does not mend."""
        around, _ = tried(plant, self._flow + self._ring)
        aside, _ = tried(plant, self._flow + self._spur)
        if not around or not aside:
            return False
        if not all([is_plain(deed) for deed in self._ring + self._spur]):
            return False
        if not [deed for deed in self._ring if deed[0] == "come"]:
            return False
        return around[len(self._flow)] == around[-1] and not is_right(plant, aside[-1])


def greatest_height(rows, least):
    """Return the greatest height of the rows that are pairs with a number, but at least the given one."""
    return max([least] + [row[1] for row in rows if is_pair(row) and is_number(row[1], least, row[1])])


def is_pair(value):
    """Tell whether any value is a pair."""
    return isinstance(value, tuple) and len(value) == 2


def are_rows(plant, rows):
    """Tell whether any values are pairs of a tuple of the form of a place and a height from 0 on."""
    return all([is_pair(row) and is_place(plant, row[0]) and is_number(row[1], 0, row[1]) for row in rows])


def is_bounded(plant, place, told):
    """Tell whether the heights that are told of the places behind the deeds of a place allow its own height."""
    height = told[place]
    if height == 0 and not is_right(plant, place):
        return False
    for deed in deeds_at(plant, place):
        there, _ = behind(plant, place, deed)
        if there not in told:
            return False
        if is_plain(deed) and not allows(deed, height, told[there]):
            return False
    return True


def allows(deed, height, height_behind):
    """Tell whether a plain deed can lead from one height to another."""
    if height == 0:
        return height_behind == 0
    return height >= max(1, height_behind) + (1 if deed[0] == "come" else 0)


def settled(plant, *, most=5000):
    """Return the ascending list of the settled places to which flows lead."""
    return sorted(Belief(plant, most).settled_places())


def heights(plant, *, most=5000):
    """Return a dict from each place to which flows lead to its height, None where there is none."""
    return {place: height for place, height in Belief(plant, most).rows()}


def mended(plant, *, most=5000):
    """Return a Mends with the places in the order of meeting, or a Never."""
    belief = Belief(plant, most)
    rows = belief.rows()
    if None in [height for _, height in rows]:
        flow, ring, spur = belief.endless_flow()
        return Never(flow, ring, spur)
    return Mends(rows, belief.longest_flow(greatest_height(rows, 0)))
