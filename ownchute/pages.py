"""Pages: the texts of halls."""

from ownchute.commands import is_name
from ownchute.errors import InvalidPage, InvalidText
from ownchute.halls import Hall, hall_of
from ownchute.plants import Plant


def write_page(hall):
    """Return the page of a hall."""
    return "".join([f"plant {name} {hall.plant_of(name).text}\n" for name in hall.names()])


def read_page(text):
    """Return a hall without steps and kept words that has the page."""
    if not isinstance(text, str):
        raise InvalidPage(0)
    *lines, rest = text.split("\n")
    plants = {}
    last = ""
    for at, line in enumerate(lines):
        name, plant = read_line(line)
        if plant is None or name <= last or len(plants) == Hall.MOST:
            raise InvalidPage(at)
        plants[name] = plant
        last = name
    if rest != "":
        raise InvalidPage(len(lines))
    return hall_of(plants)


def read_line(line):
    """Return the pair of the name and the plant of a line, None for the plant if the line has none."""
    word, _, rest = line.partition(" ")
    name, _, text = rest.partition(" ")
    if word != "plant" or not is_name(name):
        return name, None
    try:
        return name, Plant.read(text)
    except InvalidText:
        return name, None
