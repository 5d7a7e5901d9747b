"""Repaints: by how few other moods all come to rest, or never rest."""

from itertools import combinations

from threemoods.alls import calm_for_all
from threemoods.checks import MOODS, check_state, check_web
from threemoods.moods import with_mood
from threemoods.rests import comes_to_rest


def repainted(state, chosen):
    """The list of the states in which just the chosen have other moods."""
    states = [state]
    for one in chosen:
        moods = [mood for mood in range(MOODS) if mood != state[one]]
        states = [with_mood(now, one, mood) for now in states for mood in moods]
    return states


def can_become(web, state, chosen, resting):
    """Whether other moods of the chosen make a state one that rests, or that never does."""
    for now in repainted(state, chosen):
        if comes_to_rest(web, now) == resting:
            return True
    return False


def fewest(web, state, resting):
    """All lots of as few folk as can be whose other moods make a state rest, or never rest."""
    many = len(state)
    for size in range(many + 1):
        lots = list(combinations(range(many), size))
        found = [lot for lot in lots if can_become(web, state, lot, resting)]
        if found:
            return tuple(found)
    return ()


def calmed(web, state):
    """All lots of as few folk as can be whose other moods make it come to rest."""
    check_web(web)
    check_state(web, state)
    return fewest(web, state, True)


def stirring(web, state):
    """All lots of as few folk as can be whose other moods make it never rest."""
    check_web(web)
    check_state(web, state)
    if calm_for_all(web):
        return ()
    return fewest(web, state, False)
