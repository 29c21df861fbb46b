"""What a desk answers to the lines of each form."""

from ownchute.comparing import Same, compared
from ownchute.errors import BeltError, Missing, NothingLeft
from ownchute.lags import Lag, lagged
from ownchute.mending import Mends, mended

MOST_DIGITS = 3


def answer_keep(hall, words):
    """Answer `keep NAME TEXT`."""
    hall.apply(("keep", words[1], " ".join(words[2:])))
    return "done"


def answer_change(hall, words):
    """Answer `change NAME OFFER`."""
    hall.apply(("change", words[1], offer_of(words[2:])))
    return "done"


def answer_drop(hall, words):
    """Answer `drop NAME`."""
    hall.apply(("drop", words[1]))
    return "done"


def answer_undo(hall, words):
    """Answer `undo`."""
    hall.undo()
    return "done"


def answer_redo(hall, words):
    """Answer `redo`."""
    hall.redo()
    return "done"


def answer_names(hall, words):
    """Answer `names`."""
    return " ".join(hall.names()) if len(hall) > 0 else "none"


def answer_show(hall, words):
    """Answer `show NAME`."""
    return hall.plant_of(words[1]).text


def answer_word(hall, words):
    """Answer `word NAME`."""
    return hall.word_of(words[1])


def answer_mend(hall, words):
    """Answer `mend NAME`."""
    paper = mended(hall.plant_of(words[1]))
    return str(paper.comings) if isinstance(paper, Mends) else "never"


def answer_lag(hall, words):
    """Answer `lag NAME`."""
    paper = lagged(hall.plant_of(words[1]))
    return str(paper.number) if isinstance(paper, Lag) else "endless"


def answer_alike(hall, words):
    """Answer `alike NAME NAME`."""
    paper = compared(hall.plant_of(words[1]), hall.plant_of(words[2]))
    return "alike" if isinstance(paper, Same) else "unlike"


def offer_of(words):
    """Return the offer that has the words."""
    if words == ["stretch", "none"]:
        return "stretch", None
    return tuple([item_of(word) for word in words])


def item_of(word):
    """Return the number or the string that a word of an offer stands for."""
    if len(word) > MOST_DIGITS or not word.isascii() or not word.isdigit():
        return word
    return word if len(word) > 1 and word.startswith("0") else int(word)


ANSWERS = {
    "keep": answer_keep,
    "change": answer_change,
    "drop": answer_drop,
    "undo": answer_undo,
    "redo": answer_redo,
    "names": answer_names,
    "show": answer_show,
    "word": answer_word,
    "mend": answer_mend,
    "lag": answer_lag,
    "alike": answer_alike,
}
# The fewest and the most words of each form; a text may have any number of them.
FORMS = {
    "keep": (3, None),
    "change": (4, 5),
    "drop": (2, 2),
    "undo": (1, 1),
    "redo": (1, 1),
    "names": (1, 1),
    "show": (2, 2),
    "word": (2, 2),
    "mend": (2, 2),
    "lag": (2, 2),
    "alike": (3, 3),
}


def answer_to(hall, line):
    """Return the answer to a line about a hall."""
    words = line.split(" ")
    if "\n" in line or "" in words or not has_form(words):
        return "unknown"
    action = ANSWERS[words[0]]
    try:
        return action(hall, words)
    except (BeltError, Missing, NothingLeft) as error:
        return f"error {error.code}"


def has_form(words):
    """Tell whether the first word is that of a form, and the form has so many words."""
    if words[0] not in FORMS:
        return False
    fewest, most = FORMS[words[0]]
    return len(words) >= fewest and (most is None or len(words) <= most)
