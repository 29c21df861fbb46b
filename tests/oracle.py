"""Second tellings of what is decided and of when papers hold, by the model, in the plainest words of the document."""

from ownchute.places import is_place
from tests.drawn import shown
from tests.model import Model, deeds_of, model_at, model_of_flow


class Graph:
    """All places to which flows lead, in the order of meeting, with their deeds, the words and the places behind."""

    def __init__(self, plant):
        self.plant = plant
        self.first = Model(plant).place()
        self.places = [self.first]
        self.distance = {self.first: 0}
        self.steps = {}
        for place in self.places:
            self.steps[place] = steps_at(plant, place)
            for _, _, there in self.steps[place]:
                if there not in self.distance:
                    self.distance[there] = self.distance[place] + 1
                    self.places.append(there)

    def shortest_astray(self, strict):
        """Return the length of a shortest flow that shows that the plant is not safe, None if there is none."""
        return min([self.distance[place] + 1 for place in self.places
                    for _, word, _ in self.steps[place] if is_bad(word, strict)], default=None)

    def plain_closure(self, place):
        """Return all places to which rows of plain deeds lead from the place."""
        closure = [place]
        for here in closure:
            closure += [there for deed, _, there in self.steps[here] if plain(deed) and there not in closure]
        return closure

    def settled(self):
        return [place for place in self.places
                if all(model_at(self.plant, there).is_right() for there in self.plain_closure(place))]

    def heights(self):
        """Return the heights by their definition: the longest rows, None where rows lead to a ring."""
        settled = set(self.settled())
        steps = {place: [(deed, there) for deed, _, there in self.steps[place] if plain(deed)]
                 for place in self.places if place not in settled}
        endless = self.leading_to_rings(steps)
        heights = {}

        def comes(place):
            if place not in heights:
                heights[place] = max([0] + [(deed[0] == "come") + (comes(there) if there in steps else 0)
                                            for deed, there in steps[place]])
            return heights[place]

        return {place: 0 if place in settled else None if place in endless else 1 + comes(place)
                for place in self.places}

    def leading_to_rings(self, steps):
        """Return the places that are left when places without steps to places that are left are taken away."""
        left = dict(steps)
        while True:
            ends = [place for place in left if not any(there in left for _, there in left[place])]
            if not ends:
                return left
            for place in ends:
                del left[place]


def word_up_to(plant, strict, most):
    """Return what looking at place after place and deed after deed comes to: "safe", "astray", or "many" where one
    place more is met than most.
    """
    places, known = [Model(plant).place()], {Model(plant).place()}
    for place in places:
        for _, word, there in steps_at(plant, place):
            if is_bad(word, strict):
                return "astray"
            if there not in known:
                if len(known) == most:
                    return "many"
                known.add(there)
                places.append(there)
    return "safe"


def steps_at(plant, place):
    """Return the list of the tuples (deed, word, place behind) at a tuple of the form of a place."""
    steps = []
    for deed in model_at(plant, place).deeds():
        model = model_at(plant, place)
        word = model.do(deed)
        steps.append((deed, word, model.place()))
    return steps


def closed(plant, places):
    """Return the tuples of the form of places with all places behind them, each once."""
    found = list(dict.fromkeys(places))
    known = set(found)
    for place in found:
        for _, _, there in steps_at(plant, place):
            if there not in known:
                known.add(there)
                found.append(there)
    return found


def plain(deed):
    return deed[-1] in ("once", "pause")


def is_bad(word, strict):
    return word is not None and (word != "own" if strict else word == "other")


def small_graph(plant, most):
    """Return the graph of a plant with at most so many places, None for other plants."""
    known, places = {Model(plant).place()}, [Model(plant).place()]
    for place in places:
        for _, _, there in steps_at(plant, place):
            if there not in known:
                if len(known) == most:
                    return None
                known.add(there)
                places.append(there)
    return Graph(plant)


def small_graphs(plants, most):
    graphs = [small_graph(plant, most) for plant in plants]
    return [graph for graph in graphs if graph is not None]


def played_flow(plant, flow):
    """Return the models behind each deed of a list of any values, the empty one first; None for no flow."""
    right = {shown(deed): deed for deed in deeds_of(plant)}
    models = [Model(plant)]
    for value in flow:
        deed = right.get(shown(value))
        model = model_of_flow(plant, models[-1].flow)
        if deed is None or not model.possible(deed):
            return None
        model.do(deed)
        models.append(model)
    return models


def word_of_last(plant, flow):
    """Return the word of the last deed of a list of any values, None where there is none."""
    models = played_flow(plant, flow)
    if not models or len(models) == 1:
        return None
    before, behind = models[-2:]
    return behind.words[-1] if len(behind.words) > len(before.words) else None


def safe_holds(plant, places, strict):
    if not all(is_place(plant, place) for place in places) or Model(plant).place() not in places:
        return False
    return all(there in places and not is_bad(word, strict)
               for place in places for _, word, there in steps_at(plant, place))


def astray_holds(plant, flow, strict):
    return is_bad(word_of_last(plant, flow), strict)


def is_height(value):
    return isinstance(value, int) and not isinstance(value, bool) and value >= 0


def mends_holds(plant, rows, flow):
    heights = {}
    for row in rows:
        if not isinstance(row, tuple) or len(row) != 2 or not is_place(plant, row[0]) or not is_height(row[1]):
            return False
        if row[0] in heights:
            return False
        heights[row[0]] = row[1]
    if Model(plant).place() not in heights:
        return False
    for place, height in heights.items():
        if height == 0 and not model_at(plant, place).is_right():
            return False
        for deed, _, there in steps_at(plant, place):
            if there not in heights:
                return False
            come = deed[0] == "come"
            if plain(deed) and height == 0 and heights[there] != 0:
                return False
            if plain(deed) and height > 0 and heights[there] == 0 and height < 1 + come:
                return False
            if plain(deed) and height > 0 and heights[there] > 0 and height < heights[there] + come:
                return False
    return flow_shows(plant, heights, flow)


def flow_shows(plant, heights, flow):
    greatest = max(heights.values())
    models = played_flow(plant, flow)
    if greatest == 0 or models is None:
        return greatest == 0 and flow == []
    start = max([0] + [at + 1 for at, deed in enumerate(flow) if not plain(deed)])
    places = [model.place() for model in models[start:]]
    comes = sum(deed[0] == "come" for deed in flow[start:])
    return all(heights[place] for place in places[:-1]) and comes == greatest - 1


def never_holds(plant, flow, ring, spur):
    around, aside = played_flow(plant, flow + ring), played_flow(plant, flow + spur)
    if around is None or aside is None or not all(plain(deed) for deed in ring + spur):
        return False
    return (any(deed[0] == "come" for deed in ring) and around[len(flow)].place() == around[-1].place()
            and not aside[-1].is_right())


def last_lag(plant, flow):
    """Return the lag of the last deed of a list of any values, None where there is none."""
    models = played_flow(plant, flow)
    if not models or len(models) == 1 or len(models[-1].sent) == len(models[-2].sent):
        return None
    label, record, _ = models[-1].sent[-1]
    return None if record is None else label - record


def endless_holds(plant, flow, ring, rest):
    lags = [last_lag(plant, flow + ring * many + rest) for many in range(3)]
    return None not in lags and lags[0] < lags[1] and lags[1] - lags[0] == lags[2] - lags[1]


def greatest_lag_up_to(plant, most):
    """Return the greatest lag of all flows, where records that lag by more than most count as such by most + 1.

    The labels themselves are kept, counted from the first parcel on the belts, so that records of parcels that have
    left differ.
    """
    greatest = 0
    states = [state_of(Model(plant), most)]
    known = set(states)
    for state in states:
        for deed in model_of(plant, state).deeds():
            model = model_of(plant, state)
            model.do(deed)
            if model.sent and model.sent[-1][1] is not None:
                greatest = max(greatest, model.sent[-1][0] - model.sent[-1][1])
            there = state_of(model, most)
            if there not in known:
                known.add(there)
                states.append(there)
    return greatest


def state_of(model, most):
    """Return the place with labels counted from the first parcel on the belts, none below -1 - most."""
    gone = model.came - sum(len(belt) for belt in model.belts)
    counts, _, _, slips, comings = model.place()

    def short(record):
        return record if record == "blank" else max(-1 - most, record - gone)

    queues = tuple(tuple(short(record) for record in queue) for queue in model.queues)
    return counts, queues, None if model.swap is None else short(model.swap), slips, comings


def model_of(plant, state):
    """Return the model that has the state; its labels are counted from the first parcel on the belts."""
    counts, queues, swap, slips, comings = state
    model = model_at(plant, (counts, tuple(() for _ in queues), -2, slips, comings))
    model.came -= 1
    model.belts = [[label - 1 for label in belt] for belt in model.belts]
    model.queues = [list(queue) for queue in queues]
    model.swap = swap
    # Labels below 0 find some chute here; only the labels that are sent are of interest.
    model.chutes = [1] * (model.came + 50)
    return model
