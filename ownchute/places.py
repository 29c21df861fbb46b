"""Places: all that decides which deeds are possible, and what they do."""

from ownchute.checks import check_number
from ownchute.deeds import all_deeds, check_deeds
from ownchute.errors import InvalidDeed, NotNow, TooMany
from ownchute.kinds import is_number
from ownchute.scenes import BLANK, NO_SWAP, first_scene, is_possible, most_comings, moved, renumbered

GONE = -1
MOST_PLACES = 20000


def first_place(plant):
    """Return the place of the empty flow."""
    return first_scene(plant)


def is_place(plant, value):
    """Tell whether any value has the form of a place of the plant."""
    if not is_row(value, 5):
        return False
    counts, queues, swap, slips, comings = value
    line = plant.line
    if not are_counts(line.belts(), counts):
        return False
    greatest = sum(counts) - 1
    return (are_queues(plant.tracker.rooms(), queues, greatest) and is_number(swap, NO_SWAP, greatest)
            and are_slips(line.slips, slips) and is_number(comings, 0, most_comings(line)))


def is_row(value, many):
    """Tell whether any value is a tuple with so many items."""
    return isinstance(value, tuple) and len(value) == many


def are_counts(belts, value):
    """Tell whether any value has a count of parcels for each belt."""
    return is_row(value, len(belts)) and all([is_number(count, 0, room) for count, room in zip(value, belts)])


def are_queues(rooms, value, greatest):
    """Tell whether any value has a queue of codes for each room."""
    return is_row(value, len(rooms)) and all([is_queue(queue, room, greatest) for queue, room in zip(value, rooms)])


def is_queue(value, room, greatest):
    """Tell whether any value is a queue of codes that has room."""
    if not isinstance(value, tuple) or len(value) > room:
        return False
    return all([is_number(code, BLANK, greatest) for code in value])


def are_slips(slips, value):
    """Tell whether any value tells the slips of the last passings."""
    most, among = slips
    return is_row(value, among - 1) and all([is_number(slip, 0, 1) for slip in value]) and sum(value) <= most


def deeds_at(plant, place):
    """Return the list of the deeds that are possible at a place, in their order."""
    return [deed for deed in all_deeds(plant) if is_possible(plant, place, deed)]


def behind(plant, place, deed):
    """Return the pair of the place behind a possible deed and its word, or None for it."""
    there, code, found = stepped(plant, place, deed)
    if deed[:2] != ("pass", plant.line.last):
        return there, None
    return there, word_of_sending(code, found)


def stepped(plant, place, deed):
    """Return the place behind a possible deed, the code that its parcel had, and the first record that moves on.

    Numbers below the codes stand for themselves, so that a record can be marked.
    """
    if deed[0] == "come":
        place = renumbered(place, older)
    code = code_of_parcel(place, deed)
    there, found = moved(plant, place, deed, code)
    if deed[:2] == ("pass", plant.line.last):
        there = renumbered(there, lambda number: GONE if number == code else number)
    return there, code, found


def older(code):
    """Return what a code becomes when a parcel comes."""
    return code + 1 if code >= 0 else code


def code_of_parcel(place, deed):
    """Return the code of the parcel of a deed."""
    if deed[0] != "pass":
        return 0
    return sum(place[0][:deed[1]]) - 1


def word_of_sending(code, found):
    """Return the word of the passing of a parcel that is sent by what was found."""
    if found == BLANK:
        return "on"
    return "own" if found == code else "other"


def is_right(plant, place):
    """Tell whether the belief is right at a place."""
    counts, queues, swap, _, _ = place
    return swap == NO_SWAP and queues == right_queues(counts)


def right_queues(counts):
    """Return the queues that have just the codes of the parcels of their belts."""
    queues = []
    younger = 0
    for count in counts:
        queues.append(tuple(range(younger + count - 1, younger - 1, -1)))
        younger += count
    return tuple(queues)


def walked(plant, flow):
    """Return the list of the places from the first one to the one behind the last deed of a flow."""
    places, _ = followed(plant, flow)
    return places


def words_of(plant, flow):
    """Return the list of the words of the passes at the last point in a flow."""
    _, words = followed(plant, flow)
    return [word for word in words if word is not None]


def followed(plant, flow):
    """Return the list of the places of a flow, and the list of the words of its deeds."""
    check_deeds(plant, flow)
    places = [first_place(plant)]
    words = []
    for at, deed in enumerate(flow):
        if not is_possible(plant, places[-1], deed):
            raise NotNow(at)
        place, word = behind(plant, places[-1], deed)
        places.append(place)
        words.append(word)
    return places, words


def tried(plant, flow):
    """Return what followed returns, or two empty lists for a list of any values that is no flow."""
    try:
        return followed(plant, flow)
    except (InvalidDeed, NotNow):
        return [], []


def met_places(plant, *, most=5000):
    """Yield the places in the order in which they are met."""
    check_number(most, 1, MOST_PLACES)
    first = first_place(plant)
    met = [first]
    known = {first: True}
    yield first
    at = 0
    while at < len(met):
        here = met[at]
        for deed in deeds_at(plant, here):
            there, _ = behind(plant, here, deed)
            if there not in known:
                if len(met) == most:
                    raise TooMany(most)
                known[there] = True
                met.append(there)
                yield there
        at += 1
