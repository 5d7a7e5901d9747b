"""Rests: which states come to rest, when and how, and papers that show it."""

from threemoods.checks import MOODS, check_folk, check_state, check_web, is_integer
from threemoods.errors import NotResting
from threemoods.moods import step_count, with_mood
from threemoods.orbits import orbit
from threemoods.rings import is_ring, ring_sum
from threemoods.webs import lots_of, neighbours


def climb(near, state):
    """A level for each of the folk, and from whom they were reached, None for a first one.

    From one to whom they reach the levels differ by the step's count; along the
    other streets they may fail to.
    """
    levels = [None] * len(near)
    origins = [None] * len(near)
    for first in range(len(near)):
        if levels[first] is not None:
            continue
        levels[first] = 0
        waiting = [first]
        while waiting:
            one = waiting.pop()
            for other in near[one]:
                if levels[other] is None:
                    levels[other] = levels[one] + step_count(state[one], state[other])
                    origins[other] = one
                    waiting.append(other)
    return levels, origins


def odd_streets(web, state, levels):
    """The streets along which levels do not differ by the step's count."""
    return [
        (one, other) for one, other in web[1]
        if levels[other] - levels[one] != step_count(state[one], state[other])
    ]


def comes_to_rest(web, state):
    """Whether some tick makes a checked state still."""
    return not odd_streets(web, state, climb(neighbours(web), state)[0])


def heights_of(web, state):
    """The heights of a checked state, None if there are none."""
    near = neighbours(web)
    levels = climb(near, state)[0]
    if odd_streets(web, state, levels):
        return None
    for lot in lots_of(near):
        top = max([levels[one] for one in lot])
        for one in lot:
            levels[one] -= top
    return tuple(levels)


def line_back(origins, one):
    """One, from whom they were reached, and so on to a first one."""
    line = [one]
    while origins[line[-1]] is not None:
        line.append(origins[line[-1]])
    return line


def ring_over(origins, one, other):
    """The ring of the way on which one and another were reached, and their street."""
    line = line_back(origins, one)
    back = line_back(origins, other)
    while len(line) > 1 and len(back) > 1 and line[-2] == back[-2]:
        line.pop()
        back.pop()
    return tuple(line + back[:-1][::-1])


def winding_of(web, state):
    """A ring of a checked state with a sum above 0, None if there is none."""
    levels, origins = climb(neighbours(web), state)
    streets = odd_streets(web, state, levels)
    if not streets:
        return None
    one, other = streets[0]
    ring = ring_over(origins, one, other)
    return ring if ring_sum(state, ring) > 0 else ring[::-1]


def heights(web, state):
    """Integers, at most 0, that differ by the steps' counts; None if there are none."""
    check_web(web)
    check_state(web, state)
    return heights_of(web, state)


def winding(web, state):
    """A ring round which the steps' sum is above 0, None if there is none."""
    check_web(web)
    check_state(web, state)
    return winding_of(web, state)


def rests(web, state):
    """Whether some tick makes the state still."""
    check_web(web)
    check_state(web, state)
    return comes_to_rest(web, state)


def rest_paper(web, state):
    """The pair of "rests" and the heights, or of "winds" and a ring."""
    check_web(web)
    check_state(web, state)
    levels = heights_of(web, state)
    if levels is None:
        return "winds", winding_of(web, state)
    return "rests", levels


def shows_rest(web, state, value):
    """Whether a value is a tuple of integers that differ by the steps' counts."""
    if not isinstance(value, tuple) or len(value) != web[0]:
        return False
    if not all([is_integer(item) for item in value]):
        return False
    return not odd_streets(web, state, value)


def judged_rest(web, state, value):
    """Whether a value is a right paper of whether the state comes to rest."""
    check_web(web)
    check_state(web, state)
    if not isinstance(value, tuple) or len(value) != 2:
        return False
    word, shown = value
    if word == "rests":
        return shows_rest(web, state, shown)
    if word == "winds":
        return is_ring(neighbours(web), shown) and ring_sum(state, shown) > 0
    return False


def heights_at_rest(web, state):
    """The heights of a state, NotResting if it never comes to rest."""
    check_web(web)
    check_state(web, state)
    levels = heights_of(web, state)
    if levels is None:
        raise NotResting("this state never comes to rest")
    return levels


def last_state(web, state):
    """The still state that a state which comes to rest becomes."""
    return orbit(neighbours(web), state)[0][-1]


def rest_tick(web, state):
    """The first tick at which the state is still."""
    heights_at_rest(web, state)
    return len(orbit(neighbours(web), state)[0]) - 1


def end(web, state):
    """The still state that the state becomes."""
    heights_at_rest(web, state)
    return last_state(web, state)


def deciders(web, state):
    """The ascending tuple of the folk whose moods all in their parts end in."""
    levels = heights_at_rest(web, state)
    return tuple([one for one, level in enumerate(levels) if level == 0])


def end_if_any(web, state):
    """The still state that a checked state becomes, None if it never rests."""
    if not comes_to_rest(web, state):
        return None
    return last_state(web, state)


def sway(web, state, one):
    """The ends, one for each mood that one may have now, None for no rest."""
    check_web(web)
    check_state(web, state)
    check_folk(web, one)
    states = [with_mood(state, one, mood) for mood in range(MOODS)]
    return tuple([end_if_any(web, now) for now in states])
