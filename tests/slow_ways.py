"""Slow ways to the answers, as the document words them, that several tests use."""

import functools
import itertools

# What a step counts, by the moods from which and to which it leads.
COUNTS = {
    (0, 0): 0, (1, 1): 0, (2, 2): 0,
    (0, 1): 1, (1, 2): 1, (2, 0): 1,
    (1, 0): -1, (2, 1): -1, (0, 2): -1,
}


@functools.cache
def neighbours_in(web):
    """The neighbours of each of the folk of a web."""
    return [
        [other for other in range(web[0]) if (one, other) in web[1] or (other, one) in web[1]]
        for one in range(web[0])
    ]


@functools.cache
def parts_in(web):
    """The folk of each part of a web, in ascending tuples."""
    lots = [{one} for one in range(web[0])]
    for one, other in web[1]:
        joined = [lot for lot in lots if one in lot or other in lot]
        lots = [lot for lot in lots if lot not in joined] + [set().union(*joined)]
    return sorted(tuple(sorted(lot)) for lot in lots)


def walks_in(web, one, many):
    """All walks of so many steps from one."""
    walks = [(one,)]
    for _ in range(many):
        walks = [
            (*walk, other) for walk in walks for other in (walk[-1], *neighbours_in(web)[walk[-1]])
        ]
    return walks


@functools.cache
def rings_in(web):
    """All rings of a web, from each of their folk on and in both directions."""
    found = []
    lines = [(one,) for one in range(web[0])]
    while lines:
        lines = [
            (*line, other) for line in lines for other in neighbours_in(web)[line[-1]]
            if other not in line
        ]
        found += [
            line for line in lines if len(line) > 2 and line[0] in neighbours_in(web)[line[-1]]
        ]
    return found


def sum_along(state, walk):
    """The sum of the steps of a walk."""
    return sum(COUNTS[state[one], state[other]] for one, other in itertools.pairwise(walk))


def sum_round(state, ring):
    """The sum of the steps of a ring, the last to the first among them."""
    return sum_along(state, (*ring, ring[0]))


def states_by_ticks(web, state, many):
    """The states at the ticks 0 to many, each taken as the document says."""
    states = [state]
    for _ in range(many):
        now = states[-1]
        states.append(tuple(
            (mood + 1) % 3 if (mood + 1) % 3 in [now[other] for other in near] else mood
            for mood, near in zip(now, neighbours_in(web))
        ))
    return states


def changes_by_ticks(states):
    """For each of the states of a run, how often each of the folk has changed by then."""
    counts = [(0,) * len(states[0])]
    for ahead, now in itertools.pairwise(states):
        counts.append(tuple(
            count + (one != other) for count, one, other in zip(counts[-1], ahead, now)
        ))
    return counts


def joined_table(one, other):
    """The greatest sums of walks that are put together of walks of two tables."""
    columns = list(zip(*other))
    return [
        [
            max((ahead + behind for ahead, behind in zip(row, column)
                 if ahead is not None and behind is not None), default=None)
            for column in columns
        ]
        for row in one
    ]


def greatest_by_walks(web, state, many):
    """The greatest sum of the walks of just so many steps from each, for any number."""
    folk = range(web[0])
    steps = [
        [COUNTS[state[one], state[other]] if other in (one, *near) else None for other in folk]
        for one, near in enumerate(neighbours_in(web))
    ]
    whole = [[0 if one == other else None for other in folk] for one in folk]
    while many > 0:
        if many % 2 == 1:
            whole = joined_table(whole, steps)
        steps = joined_table(steps, steps)
        many //= 2
    return tuple(max(way for way in row if way is not None) for row in whole)


def rest_by_ticks(web, state):
    """The first tick at which a state is still and the state then, None for never."""
    states = states_by_ticks(web, state, 30)
    if states[-2] != states[-1]:
        return None
    return states.index(states[-1]), states[-1]


@functools.cache
def ticks_in(web):
    """What each state of a web becomes by a tick."""
    return {
        state: states_by_ticks(web, state, 1)[1]
        for state in itertools.product(range(3), repeat=web[0])
    }


@functools.cache
def sources_in(web):
    """The states that become a state by a tick, for each that has any."""
    found = {}
    for state, after in ticks_in(web).items():
        found.setdefault(after, []).append(state)
    return found


def before(web, states):
    """The set of the states that become one of some by a tick."""
    return {source for state in states for source in sources_in(web).get(state, ())}


@functools.cache
def rests_in(web):
    """The first tick at which it is still, for each state of a web that comes to rest."""
    ticks = {state: 0 for state, after in ticks_in(web).items() if state == after}
    latest = list(ticks)
    while latest:
        latest = [state for state in before(web, latest) if state not in ticks]
        ticks.update({state: ticks[ticks_in(web)[state]] + 1 for state in latest})
    return ticks


def round_by_ticks(web, state, many=200):
    """The least first tick and period of a state, by running far beyond both."""
    states = states_by_ticks(web, state, many)
    period = states[-2::-1].index(states[-1]) + 1
    first = next(tick for tick, now in enumerate(states) if now == states[tick + period])
    return first, period


def meet_by_ticks(web, one, other, many=200):
    """The first tick at which two states have become the same, None for never."""
    pairs = zip(states_by_ticks(web, one, many), states_by_ticks(web, other, many))
    return next((tick for tick, (now, beside) in enumerate(pairs) if now == beside), None)
