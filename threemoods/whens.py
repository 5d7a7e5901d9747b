"""Whens: the first tick of a change or a mood, and the story of one's moods."""

from threemoods.checks import (
    MOODS, MOST_TICKS, check_folk, check_number, check_state, check_web,
)
from threemoods.moods import states_to
from threemoods.orbits import change_counts, orbit, tick_of_change
from threemoods.webs import neighbours

LONGEST_STORY = 300


def first_tick(web, state, one, many):
    """The first tick by which one has changed so often, None for never."""
    near = neighbours(web)
    states, first = orbit(near, state)
    return tick_of_change(change_counts(near, states, one), first, many)


def when_changed(web, state, one, many):
    """The first tick by which one has changed so often, None if they never do."""
    check_web(web)
    check_state(web, state)
    check_folk(web, one)
    check_number(many, 0, MOST_TICKS)
    return first_tick(web, state, one, many)


def when_mood(web, state, one, mood):
    """The first tick at which one is in a mood, None if never."""
    check_web(web)
    check_state(web, state)
    check_folk(web, one)
    check_number(mood, 0, MOODS - 1)
    # Each change leads to the next mood of the ring.
    return first_tick(web, state, one, (mood - state[one]) % MOODS)


def story(web, state, one, last):
    """The text of one's moods, a figure each, at the ticks 0 to last."""
    check_web(web)
    check_state(web, state)
    check_folk(web, one)
    check_number(last, 0, LONGEST_STORY)
    states = states_to(neighbours(web), state, last)
    return "".join([str(now[one]) for now in states])
