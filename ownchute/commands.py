"""Commands: what can be done to the plants of a hall, which are a dict from names to plants."""

from ownchute.errors import DuplicateName, Full, InvalidCommand, InvalidName, UnknownName
from ownchute.plants import Plant

LETTERS = "abcdefghijklmnopqrstuvwxyz"
MOST_LETTERS = 8
ITEMS = {"keep": 3, "change": 3, "drop": 2}


def is_name(value):
    """Tell whether any value is a name."""
    if not isinstance(value, str) or not 1 <= len(value) <= MOST_LETTERS:
        return False
    return all([letter in LETTERS for letter in value])


def has_name(plants, value):
    """Tell whether any value is the name of one of the plants."""
    return isinstance(value, str) and value in plants


def check_there(plants, name):
    """Refuse any value but the name of one of the plants."""
    if not has_name(plants, name):
        raise UnknownName(name)


def is_command(value):
    """Tell whether any value is a tuple that begins with the word of a command and has as many items."""
    if not isinstance(value, tuple) or len(value) == 0 or not isinstance(value[0], str):
        return False
    return ITEMS.get(value[0]) == len(value)


def check_commands(values):
    """Refuse the first value that is no command."""
    for at, value in enumerate(values):
        if not is_command(value):
            raise InvalidCommand(at)


def commanded(plants, command, limit):
    """Return the plants as a command leaves them, where a limit holds for their number."""
    if command[0] == "keep":
        return with_kept(plants, command[1], command[2], limit)
    if command[0] == "change":
        return with_changed(plants, command[1], command[2])
    return without_dropped(plants, command[1])


def with_kept(plants, name, text, limit):
    """Return the plants with a new one that has the text."""
    if not is_name(name):
        raise InvalidName(name)
    if name in plants:
        raise DuplicateName(name)
    # An undo can bring back more plants than the limit.
    if len(plants) >= limit:
        raise Full(limit)
    return {**plants, name: Plant.read(text)}


def with_changed(plants, name, offer):
    """Return the plants, one of them changed by an offer."""
    check_there(plants, name)
    return {**plants, name: plants[name].with_offers(offer)}


def without_dropped(plants, name):
    """Return the plants but the one that is dropped."""
    check_there(plants, name)
    return {other: plants[other] for other in plants if other != name}
