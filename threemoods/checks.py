"""What the functions of the package ask of their arguments."""

from threemoods.errors import BadFolk, BadNumber, BadState, BadWalk, BadWeb, NotText, TooMany

MOST_FOLK = 10
FEW_FOLK = 7
MOODS = 3
LONGEST_WALK = 200
MOST_TICKS = 10 ** 30


def is_integer(value):
    """Whether a value is an integer, which True and False are not here."""
    return isinstance(value, int) and not isinstance(value, bool)


def is_between(value, least, most):
    """Whether a value is an integer from least to most."""
    return is_integer(value) and least <= value <= most


def is_folk(value, many):
    """Whether a value is one of so many folk."""
    return is_between(value, 0, many - 1)


def is_mood(value):
    """Whether a value is a mood."""
    return is_between(value, 0, MOODS - 1)


def are_moods(value):
    """Whether a value is a tuple of moods."""
    return isinstance(value, tuple) and all([is_mood(item) for item in value])


def is_state(value, many):
    """Whether a value is a tuple of a mood for each of so many folk."""
    return are_moods(value) and len(value) == many


def is_street(value, many):
    """Whether a value is a pair of so many folk, the lesser one first."""
    if not isinstance(value, tuple) or len(value) != 2:
        return False
    one, other = value
    # The kinds come first: values of unlike kinds cannot be compared.
    return is_folk(one, many) and is_folk(other, many) and one < other


def check_web(web):
    """Raise BadWeb if a value is no web."""
    if not isinstance(web, tuple) or len(web) != 2:
        raise BadWeb(None)
    many, streets = web
    if not is_between(many, 1, MOST_FOLK) or not isinstance(streets, tuple):
        raise BadWeb(None)
    for index, street in enumerate(streets):
        if not is_street(street, many):
            raise BadWeb(index)
        if index > 0 and street <= streets[index - 1]:
            raise BadWeb(index)


def check_few(web):
    """Raise TooMany if a web has more folk than all states can be gone through for."""
    if web[0] > FEW_FOLK:
        raise TooMany(FEW_FOLK)


def check_folk(web, one):
    """Raise BadFolk if a value is none of the folk of a web."""
    if not is_folk(one, web[0]):
        raise BadFolk("this is none of the folk")


def check_state(web, state):
    """Raise BadState if a value is no state of a web."""
    if not is_state(state, web[0]):
        raise BadState("a state is a tuple of a mood for each of the folk")


def check_number(value, least, most):
    """Raise BadNumber if a value is no integer from least to most."""
    if not is_between(value, least, most):
        raise BadNumber("this is no integer within the limits")


def check_text(value):
    """Raise NotText if a value is no string."""
    if not isinstance(value, str):
        raise NotText("this is no string")


def wrong_item(near, walk):
    """The index of the first item of a tuple that keeps it from being a walk, or None."""
    for index, one in enumerate(walk):
        if not is_folk(one, len(near)):
            return index
        if index > 0 and one != walk[index - 1] and one not in near[walk[index - 1]]:
            return index
    return None


def check_walk(near, walk):
    """Raise BadWalk if a value is no walk of folk with these neighbours."""
    if not isinstance(walk, tuple) or not 1 <= len(walk) <= LONGEST_WALK:
        raise BadWalk(None)
    index = wrong_item(near, walk)
    if index is not None:
        raise BadWalk(index)
