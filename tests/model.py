"""A second telling of what deeds do, with the parcels, the records and all passings themselves, to compare with."""

BLANK = "blank"
SIGHTS = ("once", "missed", "twice", "swapped")


def deeds_of(plant):
    """Return all deeds of a plant in the order of point 9."""
    deeds = [("come", sight) for sight in SIGHTS]
    for point in range(1, len(plant.line) + 1):
        deeds += [("pass", point, sight) for sight in SIGHTS]
    return deeds + [("pause",)]


class Model:

    def __init__(self, plant):
        self.plant = plant
        self.line = plant.line
        self.tracker = plant.tracker
        self.belts = [[] for _ in plant.line.belts()]
        self.queues = [[] for _ in plant.line.belts()]
        self.swap = None
        self.sights = []
        self.since = 0
        self.came = 0
        self.flow = []
        self.words = []
        self.chutes = []
        self.sent = []

    def possible(self, deed):
        if deed == ("pause",):
            return not any(self.belts) and self.swap is None and self.since > 0
        sight = deed[-1]
        if sight != "once" and not self.may_slip(sight):
            return False
        rooms = self.line.belts()
        if deed[0] == "come":
            if len(self.belts[0]) == rooms[0]:
                return False
            if self.swap is not None:
                return sight == "once"
            return self.line.stretch is None or self.since < self.line.stretch
        point = deed[1]
        if sight == "swapped" or not self.belts[point - 1]:
            return False
        return point == len(rooms) or len(self.belts[point]) < rooms[point]

    def may_slip(self, sight):
        most, among = self.line.slips
        window = (self.sights + [sight])[-among:]
        return sight in self.line.words() and len([one for one in window if one != "once"]) <= most

    def deeds(self):
        return [deed for deed in deeds_of(self.plant) if self.possible(deed)]

    def do(self, deed, chute=1):
        """Do a deed; return its word."""
        assert self.possible(deed), deed
        self.flow.append(deed)
        if deed == ("pause",):
            self.since = 0
            if self.tracker.pause == "clear":
                self.queues = [[] for _ in self.queues]
            return None
        self.sights.append(deed[-1])
        if deed[0] == "come":
            return self.come(deed[1], chute)
        return self.pass_on(deed[1], deed[2])

    def come(self, sight, chute):
        label = self.came
        self.came += 1
        self.since += 1
        self.chutes.append(chute)
        self.belts[0].append(label)
        looks = {"once": [label], "missed": [], "twice": [label, label], "swapped": []}[sight]
        if self.swap is not None:
            looks.append(self.swap)
            self.swap = None
        elif sight == "swapped":
            self.swap = label
        for look in looks:
            self.append(0, look)

    def append(self, at, record):
        self.queues[at].append(record)
        if len(self.queues[at]) > self.tracker.rooms()[at]:
            self.queues[at].pop(0)

    def pass_on(self, point, sight):
        label = self.belts[point - 1].pop(0)
        taken = []
        for _ in range({"once": 1, "missed": 0, "twice": 2}[sight]):
            moves = self.looks(point, label)
            taken += moves
            if point < len(self.belts):
                for record in moves:
                    self.append(point, record)
        if point < len(self.belts):
            self.belts[point].append(label)
            return None
        return self.send(label, taken)

    def looks(self, point, label):
        """Take out of the queue what one look takes; return what moves on."""
        queue = self.queues[point - 1]
        if point in self.line.scans():
            if label in queue[:1 + self.tracker.seek]:
                while queue.pop(0) != label:
                    pass
            elif queue and self.tracker.strange == "first":
                queue.pop(0)
            return [label]
        if queue:
            return [queue.pop(0)]
        return [BLANK] if self.tracker.empty == "blank" else []

    def send(self, label, taken):
        record = taken[0] if taken and taken[0] != BLANK else None
        self.sent.append((label, record, None if record is None else self.chutes[record]))
        word = "on" if record is None else "own" if record == label else "other"
        self.words.append(word)
        return word

    def code(self, record):
        if record == BLANK:
            return -2
        for belt in self.belts:
            if record in belt:
                return self.came - 1 - record
        return -1

    def place(self):
        among = self.line.slips[1]
        slips = [0] * among + [int(sight != "once") for sight in self.sights]
        bound = 1 if self.line.stretch is None else self.line.stretch
        return (tuple(len(belt) for belt in self.belts),
                tuple(tuple(self.code(record) for record in queue) for queue in self.queues),
                -2 if self.swap is None else self.code(self.swap),
                tuple(slips[len(slips) - among + 1:]),
                min(self.since, bound))

    def is_right(self):
        return self.queues == self.belts and self.swap is None

    def shown_queues(self):
        return [[None if record == BLANK else record for record in queue] for queue in self.queues]

    def astray(self):
        return [label for label, _, chute in self.sent if chute is not None and chute != self.chutes[label]]


def model_of_flow(plant, flow):
    """Return the model behind a flow."""
    model = Model(plant)
    for deed in flow:
        model.do(deed)
    return model


def model_at(plant, place):
    """Return a model that stands at a tuple of the form of a place, whether a flow leads there or not.

    Label 0 stands for all parcels that have left.
    """
    counts, queues, swap, slips, comings = place
    model = Model(plant)
    model.came = 1 + sum(counts)
    model.chutes = [1] * model.came
    end = model.came
    for belt, count in zip(model.belts, counts):
        belt.extend(range(end - count, end))
        end -= count

    def record(code):
        return BLANK if code == -2 else 0 if code == -1 else model.came - 1 - code

    model.queues = [[record(code) for code in queue] for queue in queues]
    model.swap = None if swap == -2 else record(swap)
    model.sights = ["missed" if slip else "once" for slip in slips]
    model.since = comings
    return model


def met_by_flows(plant, most):
    """Return the first places in the order of meeting, each with a flow to it."""
    start = Model(plant).place()
    rows = [(start, [])]
    known = {start}
    at = 0
    while at < len(rows) and len(rows) < most:
        _, flow = rows[at]
        for deed in model_of_flow(plant, flow).deeds():
            model = model_of_flow(plant, flow)
            model.do(deed)
            if model.place() not in known and len(rows) < most:
                known.add(model.place())
                rows.append((model.place(), flow + [deed]))
        at += 1
    return rows
