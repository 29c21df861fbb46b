"""Lines: rows of belts, with their scanners, their slips and their stretch."""

from ownchute.checks import check_fields, check_number, check_rooms, check_word
from ownchute.errors import InvalidNumber, InvalidPoint
from ownchute.kinds import is_number

SLIP_WORDS = ("missed", "twice", "swapped")
MOST_SLIPS = 3
MOST_AMONG = 6
MOST_STRETCH = 12
LINE_FIELDS = ("belts", "scans", "slips", "words", "stretch")


class Line:
    """One to three belts with room for parcels, and what may happen between them."""

    MOST = 3

    def __init__(self, *belts, scans=(), slips=(1, 4), words=("missed", "twice", "swapped"), stretch=None):
        check_rooms(belts, Line.MOST)
        check_scans(scans, len(belts))
        check_slips(slips)
        check_slip_words(words)
        check_stretch(stretch)
        self._belts = belts
        self._scans = tuple(sorted(scans))
        self._slips = slips
        self._words = tuple(words)
        self._stretch = stretch

    def belts(self):
        """Return the list of the rooms of the belts."""
        return list(self._belts)

    def scans(self):
        """Return the ascending list of the scanners between belts."""
        return list(self._scans)

    def words(self):
        """Return the list of the slip words that can occur."""
        return list(self._words)

    @property
    def slips(self):
        """The pair (most, among)."""
        return self._slips

    @property
    def stretch(self):
        """The most parcels that come between two pauses, or None."""
        return self._stretch

    @property
    def last(self):
        """The number of the last point."""
        return len(self._belts)

    def is_scanner(self, point):
        """Tell whether a point of the line is a scanner."""
        if not is_number(point, 0, len(self._belts)):
            raise InvalidPoint(point)
        return point == 0 or point in self._scans

    def changed(self, **fields):
        """Return the line with other values of some of its fields."""
        check_fields(fields, LINE_FIELDS)
        belts = fields.get("belts", self._belts)
        scans = fields.get("scans", self._scans)
        slips = fields.get("slips", self._slips)
        words = fields.get("words", self._words)
        stretch = fields.get("stretch", self._stretch)
        return Line(*belts, scans=scans, slips=slips, words=words, stretch=stretch)

    def __eq__(self, other):
        return (isinstance(other, Line) and self._belts == other._belts and self._scans == other._scans
                and self._slips == other._slips and self._words == other._words
                and self._stretch == other._stretch)

    def __len__(self):
        return len(self._belts)

    def __repr__(self):
        return f"Line({len(self._belts)} belts)"


def check_scans(scans, last):
    """Refuse the first scan that is no point between belts or occurs earlier."""
    seen = []
    for point in scans:
        if not is_number(point, 1, last - 1) or point in seen:
            raise InvalidPoint(point)
        seen.append(point)


def check_slips(slips):
    """Refuse slips unless they are a pair (most, among)."""
    if not isinstance(slips, tuple) or len(slips) != 2:
        raise InvalidNumber(slips)
    if not is_number(slips[0], 0, MOST_SLIPS) or not is_number(slips[1], 1, MOST_AMONG):
        raise InvalidNumber(slips)


def check_slip_words(words):
    """Refuse the first word that is no slip word or does not stand behind those ahead of it."""
    left = SLIP_WORDS
    for word in words:
        check_word(word, left)
        left = left[left.index(word) + 1:]


def check_stretch(stretch):
    """Refuse any stretch but None and the numbers that it can be."""
    if stretch is not None:
        check_number(stretch, 1, MOST_STRETCH)
