"""Moods: who is stirred, what a tick does, and what a walk adds up to."""

from threemoods.checks import MOODS, check_number, check_state, check_walk, check_web
from threemoods.webs import neighbours

LONGEST_RUN = 500


def beater(mood):
    """The mood that beats a mood."""
    return (mood + 1) % MOODS


def beaten(mood):
    """The mood that a mood beats."""
    return (mood - 1) % MOODS


def step_count(start, goal):
    """What a step between two moods counts: 1 to the one that beats, -1, or 0."""
    if goal == start:
        return 0
    if goal == beater(start):
        return 1
    return -1


def with_mood(state, one, mood):
    """A state with a mood for one, all others as they are."""
    return state[:one] + (mood,) + state[one + 1:]


def states_of(many):
    """The ascending list of all states of so many folk."""
    states = [()]
    for _ in range(many):
        states = [state + (mood,) for state in states for mood in range(MOODS)]
    return states


def is_stirred(near, state, one):
    """Whether one has a neighbour whose mood beats their own."""
    return beater(state[one]) in [state[other] for other in near[one]]


def stirred_folk(near, state):
    """The ascending tuple of the stirred folk of a checked state."""
    return tuple([one for one in range(len(state)) if is_stirred(near, state, one)])


def state_after(near, state):
    """The state that a checked state becomes by a tick."""
    moved = list(state)
    for one in stirred_folk(near, state):
        moved[one] = beater(state[one])
    return tuple(moved)


def states_to(near, state, many):
    """The list of the states of a checked state at the ticks 0 to many."""
    states = [state]
    for _ in range(many):
        states.append(state_after(near, states[-1]))
    return states


def sum_of_steps(state, walk):
    """What the steps of a checked walk add up to."""
    moods = [state[one] for one in walk]
    return sum([step_count(start, goal) for start, goal in zip(moods, moods[1:])])


def stirred(web, state):
    """The ascending tuple of the folk with a neighbour whose mood beats theirs."""
    check_web(web)
    check_state(web, state)
    return stirred_folk(neighbours(web), state)


def tick(web, state):
    """The state after a tick."""
    check_web(web)
    check_state(web, state)
    return state_after(neighbours(web), state)


def run(web, state, many):
    """The tuple of the states at the ticks 0, which is now, to many."""
    check_web(web)
    check_state(web, state)
    check_number(many, 0, LONGEST_RUN)
    return tuple(states_to(neighbours(web), state, many))


def walk_sum(web, state, walk):
    """What the steps of a walk add up to."""
    check_web(web)
    check_state(web, state)
    check_walk(neighbours(web), walk)
    return sum_of_steps(state, walk)
