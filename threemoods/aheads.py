"""Aheads: which states become a state, how far back, and how many of them."""

from threemoods.checks import check_number, check_state, check_web
from threemoods.errors import TooMany
from threemoods.moods import beaten, beater
from threemoods.orbits import orbit
from threemoods.webs import neighbours

MOST_STATES = 20000
MOST_TICKS_BACK = 100


def moods_ahead(near, state, one):
    """The moods that one may have had a tick ahead."""
    mood = state[one]
    # Whoever beats a neighbour now has just changed. With this mood already a tick ahead
    # they would have stirred that neighbour, or have been stirred themselves.
    if beaten(mood) in [state[other] for other in near[one]]:
        return [beaten(mood)]
    return [beaten(mood), mood]


def givers(near, state, one):
    """Those who may have had the mood of one a tick ahead: one, and some neighbours."""
    moods = (state[one], beater(state[one]))
    return [one] + [other for other in near[one] if state[other] in moods]


def is_given(state, row, group):
    """Whether one, the first of a group, has their mood from somebody of it in a row."""
    return state[group[0]] in [row[other] for other in group]


def are_given(state, row, groups):
    """Whether the first of each group has their mood from somebody of it in a row."""
    return all([is_given(state, row, group) for group in groups])


def states_ahead(near, state):
    """The list of the states that become a checked state by a tick."""
    groups = [givers(near, state, one) for one in range(len(near))]
    rows = [()]
    for one in range(len(near)):
        moods = moods_ahead(near, state, one)
        rows = [row + (mood,) for row in rows for mood in moods]
        # Rows that cannot do are left out as soon as all who could have given are told.
        whole = [group for group in groups if max(group) == one]
        rows = [row for row in rows if are_given(state, row, whole)]
    return rows


def states_before(near, states, known):
    """The list of the states that become one of some by a tick; known keeps what was found."""
    found = []
    for state in states:
        if state not in known:
            known[state] = states_ahead(near, state)
        found += known[state]
    if len(found) > MOST_STATES:
        raise TooMany(MOST_STATES)
    return found


def ahead(web, state):
    """The ascending tuple of all states that become a state by one tick."""
    check_web(web)
    check_state(web, state)
    return tuple(sorted(states_ahead(neighbours(web), state)))


def eldest(web, state):
    """The greatest number of ticks in which some state becomes a state, or "endless"."""
    check_web(web)
    check_state(web, state)
    near = neighbours(web)
    if orbit(near, state)[1] == 0:
        return "endless"
    states = states_before(near, [state], {})
    many = 0
    while states:
        many += 1
        states = states_before(near, states, {})
    return many


def kin(web, state, many):
    """How many states become a state in so many ticks."""
    check_web(web)
    check_state(web, state)
    check_number(many, 0, MOST_TICKS_BACK)
    near = neighbours(web)
    known = {}
    states = [state]
    for _ in range(many):
        states = states_before(near, states, known)
    return len(states)
