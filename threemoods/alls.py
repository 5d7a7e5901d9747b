"""Alls: what holds for all states of a web, and how many of them come to rest."""

from threemoods.checks import MOODS, check_few, check_web, is_state
from threemoods.moods import states_of
from threemoods.ratios import ZERO, lowest, size_of
from threemoods.rings import rings_by_length
from threemoods.speeds import speeds_of
from threemoods.webs import distances, lots_of, neighbours


def steps_up(length):
    """How many steps round a ring of a length can count 1, the others 0."""
    return length // MOODS * MOODS


def best_pace(length):
    """The greatest speed of a ring of a length."""
    return lowest(steps_up(length), length)


def best_ring(near):
    """A ring of a length that has the greatest speed, None without rings."""
    rings = rings_by_length(near)
    if not rings:
        return None
    length = max(list(rings), key=lambda many: size_of(best_pace(many)))
    return rings[length]


def best_speed(near):
    """The greatest speed of all folk and states."""
    ring = best_ring(near)
    return ZERO if ring is None else best_pace(len(ring))


def calm_for_all(web):
    """Whether every state comes to rest."""
    check_web(web)
    many, streets = web
    # Without a ring each street joins two lots that no other street does.
    return len(streets) + len(lots_of(neighbours(web))) == many


def longest_rest(web):
    """The greatest rest_tick of all states that come to rest."""
    check_web(web)
    near = neighbours(web)
    steps = [distances(near, one) for one in range(len(near))]
    return max([many for row in steps for many in row if many is not None])


def fastest(web):
    """The greatest speed of all folk and states."""
    check_web(web)
    return best_speed(neighbours(web))


def fastest_state(web):
    """A state in which somebody has the greatest speed."""
    check_web(web)
    near = neighbours(web)
    moods = [0] * len(near)
    ring = best_ring(near)
    if ring is not None:
        for at, one in enumerate(ring):
            moods[one] = min(at, steps_up(len(ring))) % MOODS
    return tuple(moods)


def shows_fastest_state(web, value):
    """Whether a value is a state in which somebody has the greatest speed."""
    check_web(web)
    if not is_state(value, web[0]):
        return False
    near = neighbours(web)
    return best_speed(near) in speeds_of(near, value)


def order_from(near, lot):
    """The folk of a lot, each but the first behind one of their neighbours."""
    steps = distances(near, lot[0])
    return sorted(lot, key=lambda one: steps[one])


def levels_near(levels):
    """The list of the levels that differ by at most 1 from each of some."""
    return list(range(max(levels) - 1, min(levels) + 2))


def rows_of_levels(near, order):
    """All rows of levels of folk in an order, 0 first, that neighbours climb by at most 1."""
    rows = [(0,)]
    for at in range(1, len(order)):
        told = [k for k in range(at) if order[k] in near[order[at]]]
        rows = [
            row + (level,) for row in rows for level in levels_near([row[k] for k in told])
        ]
    return rows


def counts_by_tops(order, rows):
    """How many rows have their top at just some folk, by the tuple of these."""
    counts = {}
    for row in rows:
        top = max(row)
        tops = tuple([one for one, level in zip(order, row) if level == top])
        counts[tops] = counts.get(tops, 0) + 1
    return counts


def steps_to_all(near, lot, tops):
    """The least number of streets by which all of a lot are reached from some of them."""
    steps = [distances(near, one) for one in tops]
    return max([min([row[other] for row in steps]) for other in lot])


def part_counts(near, lot):
    """How many states of a part have the rest_tick 0, 1, and so on."""
    order = order_from(near, lot)
    counts = [0] * len(lot)
    for tops, many in counts_by_tops(order, rows_of_levels(near, order)).items():
        # Levels tell a state but for the mood of the first one.
        counts[steps_to_all(near, lot, tops)] += MOODS * many
    return counts


def both_counts(ones, others):
    """How many states of two lots have each rest_tick, the later one of those of the lots."""
    counts = []
    for ticks in range(max(len(ones), len(others))):
        by_now = sum(ones[:ticks + 1]) * sum(others[:ticks + 1])
        counts.append(by_now - sum(ones[:ticks]) * sum(others[:ticks]))
    return counts


def counts_of(web):
    """How many states of a checked web have each rest_tick, up to the number of folk."""
    near = neighbours(web)
    counts = [1]
    for lot in lots_of(near):
        counts = both_counts(counts, part_counts(near, lot))
    return counts


def count_resting(web):
    """How many of the states come to rest."""
    check_web(web)
    return sum(counts_of(web))


def count_by_rest(web):
    """The tuple of how many states have the rest_tick 0, 1, and so on to the last."""
    check_web(web)
    return tuple(counts_of(web)[:longest_rest(web) + 1])


def all_speeds(web):
    """The tuple, by size, of the unlike speeds that somebody has in some state."""
    check_web(web)
    check_few(web)
    near = neighbours(web)
    found = {}
    for state in states_of(len(near)):
        # Moods that are all turned alike change nothing, so one mood for the first is enough.
        if state[0] == 0:
            for pace in speeds_of(near, state):
                found[pace] = True
    return tuple(sorted(found, key=size_of))
