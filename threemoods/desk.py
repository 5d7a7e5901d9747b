"""A desk: a state that lines of text change, and ask about."""

from threemoods.checks import MOODS, MOST_TICKS, check_state, check_text, check_web
from threemoods.errors import InvalidText, NotResting
from threemoods.moods import stirred, with_mood
from threemoods.notation import number_of, text_of_state
from threemoods.rests import rest_tick
from threemoods.speeds import speed
from threemoods.walks import state_at

# What the numbers mean that stand behind the first word of each line.
FORMS = {
    "tick": (), "ticks": ("ticks",), "paint": ("one", "mood"), "back": (),
    "state": (), "stirred": (), "rest": (), "speed": ("one",),
}


def numbers_in(words, many):
    """The numbers behind the first word of a line about so many folk."""
    if words[0] not in FORMS:
        raise InvalidText(0)
    bounds = {"ticks": (1, MOST_TICKS), "one": (0, many - 1), "mood": (0, MOODS - 1)}
    meanings = FORMS[words[0]]
    numbers = []
    for at, word in enumerate(words[1:]):
        # Behind the last number no word can stand.
        if at == len(meanings):
            raise InvalidText(at + 1)
        least, most = bounds[meanings[at]]
        number = number_of(word, least, most)
        if number is None:
            raise InvalidText(at + 1)
        numbers.append(number)
    if len(numbers) < len(meanings):
        raise InvalidText(len(words))
    return numbers


def stirred_text(web, state):
    """The figures of the stirred folk, parted by blanks, or "nobody"."""
    folk = stirred(web, state)
    return " ".join([str(one) for one in folk]) if folk else "nobody"


def rest_text(web, state):
    """The tick at which a state is still, or "never"."""
    try:
        return str(rest_tick(web, state))
    except NotResting:
        return "never"


def speed_text(web, state, one):
    """The speed of one as top/bottom."""
    top, bottom = speed(web, state)[one]
    return f"{top}/{bottom}"


class Desk:
    """A state of a web, and how many ticks have gone by."""

    def __init__(self, web, state):
        check_web(web)
        check_state(web, state)
        self._web = web
        self._state = state
        self._ticks = 0
        self._past = []

    @property
    def state(self):
        """The state now."""
        return self._state

    @property
    def ticks(self):
        """How many ticks have gone by that were not taken back."""
        return self._ticks

    def run(self, line):
        """Do what a line says; the text that it asks for, or an empty one."""
        check_text(line)
        words = line.split(" ")
        if words[0] == "back" and not self._past:
            raise InvalidText(0)
        numbers = numbers_in(words, self._web[0])
        if words[0] == "state":
            return text_of_state(self._state)
        if words[0] == "stirred":
            return stirred_text(self._web, self._state)
        if words[0] == "rest":
            return rest_text(self._web, self._state)
        if words[0] == "speed":
            return speed_text(self._web, self._state, numbers[0])
        self._change(words[0], numbers)
        return ""

    def _change(self, word, numbers):
        """Let ticks go by, paint one, or take the last of these back."""
        if word == "back":
            self._state, self._ticks = self._past.pop()
            return
        self._past.append((self._state, self._ticks))
        if word == "paint":
            self._state = with_mood(self._state, numbers[0], numbers[1])
            return
        many = numbers[0] if word == "ticks" else 1
        self._state = state_at(self._web, self._state, many)
        self._ticks += many
