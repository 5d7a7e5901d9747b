"""Seens: what the moods of one tell of the moods of all."""

from threemoods.checks import check_few, check_folk, check_web
from threemoods.errors import NotText
from threemoods.moods import state_after, states_of
from threemoods.webs import neighbours

LONGEST_TOLD = 60
FIGURES = "012"


def check_told(value):
    """Raise NotText if a value is no text of 1 to 60 figures of moods."""
    if not isinstance(value, str) or not 1 <= len(value) <= LONGEST_TOLD:
        raise NotText("this is no text of 1 to 60 figures")
    if not all([sign in FIGURES for sign in value]):
        raise NotText("the figures of moods are 0, 1 and 2")


def tells(near, state, one, told):
    """Whether the moods of one at the first ticks of a state are told so."""
    now = state
    for tick, sign in enumerate(told):
        if tick > 0:
            now = state_after(near, now)
        if now[one] != int(sign):
            return False
    return True


def states_told(web, one, told):
    """The list of all states in which the moods of one at the first ticks are told so."""
    check_web(web)
    check_folk(web, one)
    check_told(told)
    check_few(web)
    near = neighbours(web)
    return [state for state in states_of(len(near)) if tells(near, state, one, told)]


def mood_of_all(states, one):
    """The mood that one has in all of some states, None without one."""
    mood = states[0][one]
    return mood if all([state[one] == mood for state in states]) else None


def fits(web, one, told):
    """The ascending tuple of all states in which the moods of one are told so."""
    return tuple(states_told(web, one, told))


def sure(web, one, told):
    """The mood, or None, that each has in all states that fit; None if no state fits."""
    states = states_told(web, one, told)
    if not states:
        return None
    return tuple([mood_of_all(states, other) for other in range(web[0])])
