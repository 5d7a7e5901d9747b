"""Notation: the texts of webs and states, and what such texts tell."""

from threemoods.checks import MOODS, MOST_FOLK, check_state, check_text, check_web
from threemoods.errors import InvalidText

FIGURES = "0123456789"
# The greatest number that a text may tell, 10 ** 30, has so many figures.
MOST_FIGURES = 31


def number_of(word, least, most):
    """The number from least to most that a word tells, None if it tells none."""
    if not 1 <= len(word) <= MOST_FIGURES or not all([sign in FIGURES for sign in word]):
        return None
    if word[0] == "0" and len(word) > 1:
        return None
    number = int(word)
    return number if least <= number <= most else None


def street_of(word, many):
    """The street of so many folk that a word tells, None if it tells none."""
    start, _, goal = word.partition("-")
    one = number_of(start, 0, many - 1)
    other = number_of(goal, 0, many - 1)
    if one is None or other is None or one >= other:
        return None
    return one, other


def text_of_state(state):
    """The figures of the moods of a checked state."""
    return "".join([str(mood) for mood in state])


def write_web(web):
    """The text of a web."""
    check_web(web)
    many, streets = web
    return " ".join(["folk", str(many)] + [f"{one}-{other}" for one, other in streets])


def write_state(web, state):
    """The text of a state."""
    check_web(web)
    check_state(web, state)
    return text_of_state(state)


def read_web(text):
    """The web that a text tells."""
    check_text(text)
    words = text.split(" ")
    if words[0] != "folk":
        raise InvalidText(0)
    many = number_of(words[1], 1, MOST_FOLK) if len(words) > 1 else None
    if many is None:
        raise InvalidText(1)
    streets = []
    for at in range(2, len(words)):
        street = street_of(words[at], many)
        if street is None or (streets and street <= streets[-1]):
            raise InvalidText(at)
        streets.append(street)
    return many, tuple(streets)


def read_state(web, text):
    """The state of a web that a text tells."""
    check_web(web)
    check_text(text)
    moods = [number_of(sign, 0, MOODS - 1) for sign in text]
    if len(moods) != web[0] or None in moods:
        raise InvalidText(0)
    return tuple(moods)
