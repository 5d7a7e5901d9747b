"""Rings: what is one, and what the steps round it add up to."""

from threemoods.checks import is_folk
from threemoods.moods import step_count

SHORTEST_RING = 3


def ring_steps(ring):
    """The pairs of each of a ring and the next one, the last and the first among them."""
    return list(zip(ring, ring[1:] + ring[:1]))


def is_ring(near, value):
    """Whether a value is a ring of folk with these neighbours."""
    if not isinstance(value, tuple) or len(value) < SHORTEST_RING:
        return False
    if not all([is_folk(one, len(near)) for one in value]):
        return False
    if len(set(value)) < len(value):
        return False
    return all([other in near[one] for one, other in ring_steps(value)])


def ring_sum(state, ring):
    """What the steps round a ring add up to."""
    return sum([step_count(state[one], state[other]) for one, other in ring_steps(ring)])


def longer_lines(near, lines):
    """Lines of unlike folk, the least one first, that go on from lines by one more.

    Of those that hold the same folk and end alike one is enough: they go on alike.
    """
    found = {}
    for line in lines:
        for other in near[line[-1]]:
            if other > line[0] and other not in line:
                longer = line + (other,)
                key = (tuple(sorted(longer)), other)
                found[key] = longer
    return list(found.values())


def rings_by_length(near):
    """A ring of each length of which there is any, by the length."""
    rings = {}
    lines = [(one,) for one in range(len(near))]
    while lines:
        lines = longer_lines(near, lines)
        for line in lines:
            if len(line) >= SHORTEST_RING and line[0] in near[line[-1]]:
                rings[len(line)] = line
    return rings
