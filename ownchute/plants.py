"""Plants: a line with a tracker, and their texts."""

from ownchute.errors import BeltError, InvalidOffer, InvalidText, WrongCount
from ownchute.lines import Line
from ownchute.offers import fits, offered_line, offered_tracker
from ownchute.trackers import Tracker

HEADINGS = ("belts", "scans", "slips", "stretch", "rooms", "seek")
MOST_DIGITS = 2


class Plant:
    """A line with a tracker that has a queue for each of its belts."""

    def __init__(self, line, tracker):
        if len(tracker) != len(line):
            raise WrongCount(len(tracker))
        self._line = line
        self._tracker = tracker
        self._text = " ".join(line_words(line) + tracker_words(tracker))

    @property
    def line(self):
        """The line."""
        return self._line

    @property
    def tracker(self):
        """The tracker."""
        return self._tracker

    @property
    def text(self):
        """The text of the plant, one line of words."""
        return self._text

    @staticmethod
    def read(text):
        """Return the plant that has the text."""
        if not isinstance(text, str):
            raise InvalidText(0)
        plant = plant_of(sections_of(text))
        # What was read may be written in another way; only the one text of the plant is right.
        if plant is None or plant.text != text:
            raise InvalidText(0)
        return plant

    def with_offers(self, *offers):
        """Return the plant as the offers leave it, applied in their order."""
        for at, offer in enumerate(offers):
            if not fits(self._line.last, offer):
                raise InvalidOffer(at)
        line = self._line
        tracker = self._tracker
        for offer in offers:
            line = offered_line(line, offer)
            tracker = offered_tracker(tracker, offer)
        return Plant(line, tracker)

    def __eq__(self, other):
        return isinstance(other, Plant) and self._line == other._line and self._tracker == other._tracker

    def __repr__(self):
        return f"Plant({self._text})"


def line_words(line):
    """Return the list of the words of a text that tell of the line."""
    words = ["belts"] + numbered(line.belts())
    if line.scans():
        words = words + ["scans"] + numbered(line.scans())
    words = words + ["slips"] + numbered(line.slips) + line.words()
    if line.stretch is not None:
        words = words + ["stretch", str(line.stretch)]
    return words


def tracker_words(tracker):
    """Return the list of the words of a text that tell of the tracker."""
    rules = [str(tracker.seek), tracker.empty, tracker.strange, tracker.pause]
    return ["rooms"] + numbered(tracker.rooms()) + ["seek"] + rules


def numbered(numbers):
    """Return the list of the words for the numbers."""
    return [str(number) for number in numbers]


def sections_of(text):
    """Return for each heading the list of the numbers and words that follow it in the text."""
    sections = {heading: [] for heading in HEADINGS}
    heading = HEADINGS[0]
    for word in text.split(" "):
        if word in HEADINGS:
            heading = word
        else:
            sections[heading].append(number_or_word(word))
    return sections


def number_or_word(word):
    """Return the number that a word stands for, or the word itself where it is none of a plant."""
    # Python itself refuses to read numbers that are very long.
    if word.isdecimal() and len(word) <= MOST_DIGITS:
        return int(word)
    return word


def plant_of(sections):
    """Return the plant that the sections tell of, or None if they tell of none."""
    if len(sections["seek"]) != 4:
        return None
    try:
        return Plant(line_of(sections), tracker_of(sections))
    except BeltError:
        return None


def line_of(sections):
    """Return the line that the sections tell of."""
    belts = sections["belts"]
    scans = sections["scans"]
    slips = tuple(sections["slips"][:2])
    words = sections["slips"][2:]
    stretch = sections["stretch"][0] if sections["stretch"] else None
    return Line(*belts, scans=scans, slips=slips, words=words, stretch=stretch)


def tracker_of(sections):
    """Return the tracker that the sections tell of."""
    rooms = sections["rooms"]
    seek, empty, strange, pause = sections["seek"]
    return Tracker(*rooms, seek=seek, empty=empty, strange=strange, pause=pause)
