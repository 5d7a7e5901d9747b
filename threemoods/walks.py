"""Walks: how often folk change, the state at any tick, and walks with the greatest sums."""

from threemoods.checks import (
    MOST_TICKS, check_folk, check_number, check_state, check_web, wrong_item,
)
from threemoods.moods import step_count, sum_of_steps
from threemoods.orbits import change_counts, changes_by, orbit, tick_within
from threemoods.webs import neighbours

MOST_STEPS = 60


def changes(web, state, many):
    """The tuple of how often each of the folk has changed by a tick."""
    check_web(web)
    check_state(web, state)
    check_number(many, 0, MOST_TICKS)
    near = neighbours(web)
    states, first = orbit(near, state)
    counts = [change_counts(near, states, one) for one in range(len(near))]
    return tuple([changes_by(row, first, many) for row in counts])


def state_at(web, state, many):
    """The state at a tick."""
    check_web(web)
    check_state(web, state)
    check_number(many, 0, MOST_TICKS)
    states, first = orbit(neighbours(web), state)
    return states[tick_within(states, first, many)]


def ways_on(near, state, sums, one):
    """The greatest sum by way of each that may follow one, paired with that one.

    The sums given are the greatest ones of walks shorter by a step.
    """
    steps = [(step_count(state[one], state[other]), other) for other in (one, *near[one])]
    return [(count + sums[other], other) for count, other in steps]


def greatest_sums(near, state, many):
    """For 0 steps to so many, the greatest sums of the walks of so many from each."""
    table = [[0] * len(near)]
    for _ in range(many):
        sums = table[-1]
        table.append([max(ways_on(near, state, sums, one))[0] for one in range(len(near))])
    return table


def best_walk(web, state, one, many):
    """A walk of so many steps from one with the greatest sum."""
    check_web(web)
    check_state(web, state)
    check_folk(web, one)
    check_number(many, 0, MOST_STEPS)
    near = neighbours(web)
    table = greatest_sums(near, state, many)
    walk = [one]
    for left in reversed(range(many)):
        walk.append(max(ways_on(near, state, table[left], walk[-1]))[1])
    return tuple(walk)


def shows_best_walk(web, state, one, many, value):
    """Whether a value is a walk of so many steps from one with the greatest sum."""
    check_web(web)
    check_state(web, state)
    check_folk(web, one)
    check_number(many, 0, MOST_STEPS)
    if not isinstance(value, tuple) or len(value) != many + 1:
        return False
    near = neighbours(web)
    if wrong_item(near, value) is not None or value[0] != one:
        return False
    return sum_of_steps(state, value) == greatest_sums(near, state, many)[many][one]
