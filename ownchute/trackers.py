"""Trackers: the rooms of the queues, and the rules by which records move."""

from ownchute.checks import check_fields, check_number, check_rooms, check_word

MOST_SEEK = 3
EMPTY_WORDS = ("blank", "none")
STRANGE_WORDS = ("first", "none")
PAUSE_WORDS = ("clear", "keep")
TRACKER_FIELDS = ("rooms", "seek", "empty", "strange", "pause")


class Tracker:
    """One to three queues with room for records, and the four rules."""

    MOST = 4

    def __init__(self, *rooms, seek=0, empty="none", strange="first", pause="clear"):
        check_rooms(rooms, Tracker.MOST)
        check_number(seek, 0, MOST_SEEK)
        check_word(empty, EMPTY_WORDS)
        check_word(strange, STRANGE_WORDS)
        check_word(pause, PAUSE_WORDS)
        self._rooms = rooms
        self._seek = seek
        self._empty = empty
        self._strange = strange
        self._pause = pause

    def rooms(self):
        """Return the list of the rooms of the queues."""
        return list(self._rooms)

    @property
    def seek(self):
        """How many records behind the first one a scanner looks at."""
        return self._seek

    @property
    def empty(self):
        """What an eye takes out of an empty queue: `blank` or `none`."""
        return self._empty

    @property
    def strange(self):
        """What a scanner takes out when it finds no record of the label: `first` or `none`."""
        return self._strange

    @property
    def pause(self):
        """What becomes of the queues at a pause: `clear` or `keep`."""
        return self._pause

    def changed(self, **fields):
        """Return the tracker with other values of some of its fields."""
        check_fields(fields, TRACKER_FIELDS)
        rooms = fields.get("rooms", self._rooms)
        seek = fields.get("seek", self._seek)
        empty = fields.get("empty", self._empty)
        strange = fields.get("strange", self._strange)
        pause = fields.get("pause", self._pause)
        return Tracker(*rooms, seek=seek, empty=empty, strange=strange, pause=pause)

    def __eq__(self, other):
        return (isinstance(other, Tracker) and self._rooms == other._rooms and self._seek == other._seek
                and self._empty == other._empty and self._strange == other._strange
                and self._pause == other._pause)

    def __len__(self):
        return len(self._rooms)

    def __repr__(self):
        return f"Tracker({len(self._rooms)} rooms)"
