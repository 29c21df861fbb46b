"""What lines and trackers check alike."""

from ownchute.errors import InvalidField, InvalidNumber, InvalidWord, WrongCount
from ownchute.kinds import is_number

MOST_BELTS = 3


def check_rooms(rooms, most):
    """Refuse rooms unless there are as many as a line can have belts, each a number from 1 to most."""
    if not 1 <= len(rooms) <= MOST_BELTS:
        raise WrongCount(len(rooms))
    for room in rooms:
        check_number(room, 1, most)


def check_number(value, least, most):
    """Refuse any value but a number from least to most."""
    if not is_number(value, least, most):
        raise InvalidNumber(value)


def check_word(value, words):
    """Refuse any value but one of the words."""
    if value not in words:
        raise InvalidWord(value)


def check_fields(fields, names):
    """Refuse the first field that is none of the names."""
    for name in fields:
        if name not in names:
            raise InvalidField(name)
