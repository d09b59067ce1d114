"""Commands: the parts of the lines that are said to a desk."""

from threeswaps.errors import InvalidLine
from threeswaps.readers import DIGITS

# The words of the questions about one formula; those about two; and those in which a place stands before each.
ABOUT_ONE = ("period", "flow", "delay", "profile", "least", "swaps", "closed", "roots", "order", "at")
ABOUT_TWO = ("alike", "meet")
WITH_PLACES = ("at", "meet")
PLACE_DIGITS = 60


def read_line(line):
    """A tuple of the word of a line, the list of the names and formulas in it, and the list of the places in it.

    The names and formulas are texts, which may still be wrong ones.
    """
    if not isinstance(line, str):
        raise InvalidLine(line)
    word, _, told = line.partition(" ")
    if word == "let":
        names, formulas, places = _parts_of_let(line)
    elif word == "drop":
        names, formulas, places = [told], [], []
    elif word in ABOUT_ONE or word in ABOUT_TWO:
        names, formulas, places = _parts_of_question(word, told)
    elif line == "undo":
        names, formulas, places = [], [], []
    else:
        raise InvalidLine(line)
    if not _are_texts(names + formulas) or not _are_places(places) or " " in "".join(names):
        raise InvalidLine(line)
    return (word, names + formulas, [int(place) for place in places])


def _parts_of_let(line):
    """The names, the formulas and the places in a let, as they are written."""
    # The first sign in the line counts, also where it shares its space with the one behind the word.
    head, _, formula = line.partition(" = ")
    return [head[len("let "):]], [formula], []


def _parts_of_question(word, told):
    """The names, the formulas and the places in what a question tells behind its word, as they are written."""
    first, _, second = told.partition(" ; ")
    halves = [first, second] if word in ABOUT_TWO else [told]
    if word not in WITH_PLACES:
        return [], halves, []
    split = [half.partition(" ") for half in halves]
    return [], [formula for _, _, formula in split], [place for place, _, _ in split]


def _are_texts(texts):
    """Whether none of the texts is empty or has a semicolon."""
    return all([text != "" and ";" not in text for text in texts])


def _are_places(texts):
    """Whether each text is the decimal form of an integer that is not too long."""
    return all([_is_decimal(text) for text in texts])


def _is_decimal(text):
    digits = text[1:] if text.startswith("-") else text
    if not 0 < len(digits) <= PLACE_DIGITS or not all([sign in DIGITS for sign in digits]):
        return False
    # Neither a leading zero nor a minus before 0 is written.
    return str(int(text)) == text
