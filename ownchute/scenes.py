"""What deeds do to belts and queues, whatever numbers stand for the parcels.

A scene is a tuple (counts, queues, swap, slips, comings), as a place is. In a place codes stand for the
parcels, in a run their labels. Deeds do the same to both as soon as the number of the parcel is known.
"""

BLANK = -2
NO_SWAP = -2


def first_scene(plant):
    """Return the scene of the empty flow."""
    line = plant.line
    return (0,) * line.last, ((),) * line.last, NO_SWAP, (0,) * (line.slips[1] - 1), 0


def most_comings(line):
    """Return the greatest number of comings that a scene tells apart."""
    return 1 if line.stretch is None else line.stretch


def is_possible(plant, scene, deed):
    """Tell whether a deed is possible at a scene."""
    if deed[0] == "pause":
        return can_pause(scene)
    if not can_see(plant.line, scene, deed[-1]):
        return False
    if deed[0] == "come":
        return can_come(plant.line, scene, deed[1])
    return can_pass(plant.line, scene, deed[1], deed[2])


def can_pause(scene):
    """Tell whether a pause is possible."""
    counts, _, swap, _, comings = scene
    return sum(counts) == 0 and swap == NO_SWAP and comings > 0


def can_see(line, scene, sight):
    """Tell whether the line and the last passings allow the sight."""
    slips = scene[3]
    return sight == "once" or (sight in line.words() and sum(slips) < line.slips[0])


def can_come(line, scene, sight):
    """Tell whether a parcel can come with a sight that is allowed."""
    counts, _, swap, _, comings = scene
    if counts[0] >= line.belts()[0]:
        return False
    if swap != NO_SWAP:
        return sight == "once"
    return line.stretch is None or comings < line.stretch


def can_pass(line, scene, point, sight):
    """Tell whether a parcel can pass a point behind point 0 with a sight that is allowed."""
    counts = scene[0]
    if sight == "swapped" or counts[point - 1] == 0:
        return False
    return point == line.last or counts[point] < line.belts()[point]


def moved(plant, scene, deed, parcel):
    """Return the scene behind a possible deed of a parcel, and the first record that moves on.

    The record is a blank if none moves on.
    """
    if deed[0] == "pause":
        return paused(plant.tracker, scene), BLANK
    if deed[0] == "come":
        return come(plant, scene, deed[1], parcel), BLANK
    return passed(plant, scene, deed[1], deed[2], parcel)


def paused(tracker, scene):
    """Return the scene behind a pause."""
    counts, queues, swap, slips, _ = scene
    if tracker.pause == "clear":
        queues = ((),) * len(queues)
    return counts, queues, swap, slips, 0


def come(plant, scene, sight, parcel):
    """Return the scene behind the coming of a parcel."""
    counts, queues, swap, slips, comings = scene
    seen = seen_parcels(sight, parcel)
    if swap != NO_SWAP:
        seen.append(swap)
    swap = parcel if sight == "swapped" else NO_SWAP
    comings = min(comings + 1, most_comings(plant.line))
    queues = appended(plant.tracker, queues, 0, seen)
    return replaced(counts, 0, counts[0] + 1), queues, swap, with_slip(slips, sight), comings


def passed(plant, scene, point, sight, parcel):
    """Return the scene behind a passing of a parcel, and the first record that moves on."""
    counts, queues, swap, slips, comings = scene
    queue, onward = looked(plant, queues[point - 1], point, seen_parcels(sight, parcel))
    queues = replaced(queues, point - 1, queue)
    counts = replaced(counts, point - 1, counts[point - 1] - 1)
    if point < plant.line.last:
        queues = appended(plant.tracker, queues, point, onward)
        counts = replaced(counts, point, counts[point] + 1)
    first = onward[0] if onward else BLANK
    return (counts, queues, swap, with_slip(slips, sight), comings), first


def seen_parcels(sight, parcel):
    """Return the list of what a point sees of a parcel."""
    if sight == "once":
        return [parcel]
    return [parcel, parcel] if sight == "twice" else []


def with_slip(slips, sight):
    """Return the last passings, with one more that has the sight."""
    slip = 0 if sight == "once" else 1
    passings = slips + (slip,)
    return passings[1:]


def looked(plant, queue, point, parcels):
    """Return a queue behind the looks of its point at parcels, and the list of what moves on."""
    onward = []
    for parcel in parcels:
        if plant.line.is_scanner(point):
            queue = queue[scanned(plant.tracker, queue, parcel):]
            onward.append(parcel)
        elif queue:
            onward.append(queue[0])
            queue = queue[1:]
        elif plant.tracker.empty == "blank":
            onward.append(BLANK)
    return queue, onward


def scanned(tracker, queue, parcel):
    """Return how many records a scanner takes out of a queue when it sees a parcel."""
    near = queue[:tracker.seek + 1]
    if parcel in near:
        return near.index(parcel) + 1
    return 1 if tracker.strange == "first" else 0


def appended(tracker, queues, at, found):
    """Return the queues with records appended to one of them, as many as it has room for."""
    room = tracker.rooms()[at]
    queue = queues[at] + tuple(found)
    return replaced(queues, at, queue[-room:])


def replaced(row, at, item):
    """Return a row with another item at an index."""
    return row[:at] + (item,) + row[at + 1:]


def renumbered(scene, new_number):
    """Return the scene with the numbers that a function gives for those of its parcels."""
    counts, queues, swap, slips, comings = scene
    queues = tuple([tuple([new_number(number) for number in queue]) for queue in queues])
    return counts, queues, new_number(swap), slips, comings
