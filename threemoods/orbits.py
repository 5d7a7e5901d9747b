"""Orbits: all that ever comes of a state, told by the ticks until one comes again."""

from threemoods.moods import is_stirred, state_after


def orbit(near, state):
    """The list of the states until one comes again, and the tick of the one that does."""
    ticks = {}
    states = []
    now = state
    while now not in ticks:
        ticks[now] = len(states)
        states.append(now)
        now = state_after(near, now)
    return states, ticks[now]


def tick_within(states, first, many):
    """The tick among those of an orbit at which the state is that at any tick."""
    if many < first:
        return many
    return first + (many - first) % (len(states) - first)


def change_counts(near, states, one):
    """How often one has changed by each tick, up to that at which a state comes again."""
    counts = [0]
    for state in states:
        counts.append(counts[-1] + int(is_stirred(near, state, one)))
    return counts


def changes_by(counts, first, many):
    """How often the one of these counts has changed by any tick."""
    if many < first:
        return counts[many]
    laps, rest = divmod(many - first, len(counts) - 1 - first)
    return counts[first + rest] + laps * (counts[-1] - counts[first])


def tick_of_change(counts, first, many):
    """The first tick by which the one of these counts has changed so often, or None."""
    # Nobody changes twice at a tick, so the counts leave no number out.
    if many <= counts[-1]:
        return counts.index(many)
    gain = counts[-1] - counts[first]
    if gain == 0:
        return None
    laps = (many - counts[-1] + gain - 1) // gain
    return counts.index(many - laps * gain) + laps * (len(counts) - 1 - first)
