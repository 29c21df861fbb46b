"""Offers: what can be changed of the line or the tracker of a plant."""

from ownchute.kinds import is_number
from ownchute.lines import MOST_STRETCH
from ownchute.trackers import EMPTY_WORDS, MOST_SEEK, PAUSE_WORDS, STRANGE_WORDS, Tracker

RULES = ("seek", "empty", "strange", "pause")


def fits(last, value):
    """Tell whether any value is an offer for the plants whose last point is this one."""
    if not isinstance(value, tuple):
        return False
    if len(value) == 3:
        return value[0] == "room" and is_number(value[1], 1, last) and is_number(value[2], 1, Tracker.MOST)
    return len(value) == 2 and fits_pair(last, value[0], value[1])


def fits_pair(last, word, value):
    """Tell whether any word and any value make an offer."""
    if word in ("scan", "eye"):
        return is_number(value, 1, last - 1)
    if word == "seek":
        return is_number(value, 0, MOST_SEEK)
    if word == "stretch":
        return value is None or is_number(value, 1, MOST_STRETCH)
    if word == "empty":
        return value in EMPTY_WORDS
    if word == "strange":
        return value in STRANGE_WORDS
    return word == "pause" and value in PAUSE_WORDS


def offered_line(line, offer):
    """Return the line as the offer leaves it."""
    if offer[0] == "stretch":
        return line.changed(stretch=offer[1])
    if offer[0] in ("scan", "eye"):
        scans = [point for point in line.scans() if point != offer[1]]
        if offer[0] == "scan":
            scans.append(offer[1])
        return line.changed(scans=scans)
    return line


def offered_tracker(tracker, offer):
    """Return the tracker as the offer leaves it."""
    if offer[0] == "room":
        rooms = tracker.rooms()
        rooms[offer[1] - 1] = offer[2]
        return tracker.changed(rooms=rooms)
    if offer[0] in RULES:
        fields = {offer[0]: offer[1]}
        return tracker.changed(**fields)
    return tracker
