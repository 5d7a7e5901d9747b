"""Speeds: how often folk change in the long run, and papers that show it."""

from threemoods.checks import check_folk, check_state, check_web
from threemoods.moods import step_count
from threemoods.orbits import change_counts, orbit
from threemoods.ratios import ZERO, are_fractions, is_at_most, lowest
from threemoods.rings import is_ring, ring_sum
from threemoods.webs import lots_of, neighbours, part_of


def speeds_of(near, state):
    """The speeds of the folk of a checked state."""
    states, first = orbit(near, state)
    counts = [change_counts(near, states, one) for one in range(len(near))]
    return tuple([lowest(row[-1] - row[first], len(states) - first) for row in counts])


def excess(state, pace, one, other):
    """How much more a step counts than a pace, in parts of the pace's bottom."""
    return step_count(state[one], state[other]) * pace[1] - pace[0]


def top_of(near, state, pace, tops, one):
    """The greatest sum of excesses from one, given those of walks of a step less."""
    ways = [excess(state, pace, one, other) + tops[other] for other in near[one]]
    return max([tops[one]] + ways)


def roof_tops(near, state, paces):
    """The greatest sums of the excesses of walks from each, of any number of steps."""
    tops = [0] * len(near)
    # No ring exceeds the pace, so a walk that meets nobody twice is among the greatest.
    for _ in near:
        tops = [top_of(near, state, pace, tops, one) for one, pace in enumerate(paces)]
    return tops


def tight_ways(near, state, paces):
    """For each of the folk, the neighbours to whom the roof allows no step to count more."""
    tops = roof_tops(near, state, paces)
    ways = []
    for one, pace in enumerate(paces):
        downs = [(tops[one] - tops[other], other) for other in near[one]]
        ways.append([other for down, other in downs if excess(state, pace, one, other) == down])
    return ways


def never_ending(ways, lot):
    """Those of a lot from whom ways lead on and on."""
    left = list(lot)
    while True:
        kept = [one for one in left if any([other in left for other in ways[one]])]
        if kept == left:
            return left
        left = kept


def ring_at_pace(ways, lot):
    """A ring along the tight ways of a lot: its sum is just its length times the pace."""
    left = never_ending(ways, lot)
    line = [left[0]]
    while True:
        one = [other for other in ways[line[-1]] if other in left][0]
        if one in line:
            return tuple(line[line.index(one):])
        line.append(one)


def ring_or_none(near, state, paces, lot):
    """A ring in a lot with its speed, None if that is 0."""
    if paces[lot[0]] == ZERO:
        return None
    return ring_at_pace(tight_ways(near, state, paces), lot)


def speed(web, state):
    """The tuple of the speed of each of the folk."""
    check_web(web)
    check_state(web, state)
    return speeds_of(neighbours(web), state)


def busy_ring(web, state, one):
    """A ring in the part of one with their speed, None if that is 0."""
    check_web(web)
    check_state(web, state)
    check_folk(web, one)
    near = neighbours(web)
    return ring_or_none(near, state, speeds_of(near, state), part_of(near, one))


def speed_paper(web, state):
    """The pair of a ring or None for each part, and a roof."""
    check_web(web)
    check_state(web, state)
    near = neighbours(web)
    paces = speeds_of(near, state)
    rings = [ring_or_none(near, state, paces, lot) for lot in lots_of(near)]
    tops = roof_tops(near, state, paces)
    roof = [lowest(top, pace[1]) for top, pace in zip(tops, paces)]
    return tuple(rings), tuple(roof)


def is_alike(web, paces):
    """Whether neighbours, and so all in a part, have the same pace."""
    return all([paces[one] == paces[other] for one, other in web[1]])


def shows_pace(near, state, pace, lot, value):
    """Whether a value is a ring in a lot with a pace, or None for the pace 0."""
    if value is None or pace == ZERO:
        return value is None and pace == ZERO
    if not is_ring(near, value) or value[0] not in lot:
        return False
    return ring_sum(state, value) * pace[1] == pace[0] * len(value)


def are_rings(near, state, paces, value):
    """Whether a value is a tuple of a ring with its pace, or None, for each part."""
    lots = lots_of(near)
    if not isinstance(value, tuple) or len(value) != len(lots):
        return False
    for lot, item in zip(lots, value):
        if not shows_pace(near, state, paces[lot[0]], lot, item):
            return False
    return True


def is_roof(near, state, paces, value):
    """Whether a value is a roof for these paces."""
    if not are_fractions(value, len(near)):
        return False
    for one in range(len(near)):
        # Who stays makes a step, too, that counts 0.
        for other in (one, *near[one]):
            count = step_count(state[one], state[other])
            if not is_at_most(count, paces[one], value[one], value[other]):
                return False
    return True


def judged_speed(web, state, speeds, value):
    """Whether speeds are those of the folk, as far as a value shows it rightly."""
    check_web(web)
    check_state(web, state)
    near = neighbours(web)
    if not are_fractions(speeds, len(near)) or not is_alike(web, speeds):
        return False
    if not isinstance(value, tuple) or len(value) != 2:
        return False
    rings, roof = value
    return are_rings(near, state, speeds, rings) and is_roof(near, state, speeds, roof)
