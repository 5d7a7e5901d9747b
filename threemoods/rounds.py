"""Rounds: when states come again, become the same, and become one another."""

from threemoods.checks import check_state, check_web
from threemoods.moods import states_to
from threemoods.orbits import orbit
from threemoods.webs import neighbours


def coming_round(web, state):
    """The first tick whose state comes again, and after how many ticks it does."""
    check_web(web)
    check_state(web, state)
    states, first = orbit(neighbours(web), state)
    return first, len(states) - first


def meet(web, one, other):
    """The first tick at which two states have become the same, None if they never do."""
    check_web(web)
    check_state(web, one)
    check_state(web, other)
    near = neighbours(web)
    # States that come again are each that of just one such: unlike ones stay unlike.
    last = max(orbit(near, one)[1], orbit(near, other)[1])
    pairs = zip(states_to(near, one, last), states_to(near, other, last))
    alike = [now == beside for now, beside in pairs]
    return alike.index(True) if True in alike else None


def becomes(web, state, other):
    """The first tick at which a state has become another one, None if it never does."""
    check_web(web)
    check_state(web, state)
    check_state(web, other)
    states = orbit(neighbours(web), state)[0]
    return states.index(other) if other in states else None
