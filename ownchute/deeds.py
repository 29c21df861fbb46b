"""Deeds, and the texts of flows."""

from ownchute.errors import InvalidDeed, InvalidText
from ownchute.kinds import is_number

SIGHTS = ("once", "missed", "twice", "swapped")


def is_deed(plant, value):
    """Tell whether any value is a deed for the plant, possible or not."""
    if not isinstance(value, tuple):
        return False
    if len(value) == 3:
        return value[0] == "pass" and is_number(value[1], 1, plant.line.last) and value[2] in SIGHTS
    if len(value) == 2:
        return value[0] == "come" and value[1] in SIGHTS
    return value == ("pause",)


def is_plain(deed):
    """Tell whether a deed has no sight other than `once`."""
    return deed == ("pause",) or deed[-1] == "once"


def check_deeds(plant, values):
    """Refuse the first value that is no deed for the plant."""
    for at, value in enumerate(values):
        if not is_deed(plant, value):
            raise InvalidDeed(at)


def all_deeds(plant):
    """Return the list of all deeds for the plant, possible or not, in the order of their looking at."""
    points = range(1, plant.line.last + 1)
    comes = [("come", sight) for sight in SIGHTS]
    passes = [("pass", point, sight) for point in points for sight in SIGHTS]
    return comes + passes + [("pause",)]


def deed_text(deed):
    """Return the line of a deed without its line feed."""
    return " ".join([str(item) for item in deed])


def flow_text(flow):
    """Return the text of a list of deeds."""
    return "".join([deed_text(deed) + "\n" for deed in flow])


def read_flow(plant, text):
    """Return the list of the deeds that has the text."""
    if not isinstance(text, str):
        raise InvalidText(0)
    deeds = {deed_text(deed): deed for deed in all_deeds(plant)}
    *lines, rest = text.split("\n")
    for at, line in enumerate(lines):
        if line not in deeds:
            raise InvalidText(at)
    if rest != "":
        raise InvalidText(len(lines))
    return [deeds[line] for line in lines]
