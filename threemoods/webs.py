"""Webs: what hangs together in them, and how far apart folk are."""

from threemoods.checks import check_folk, check_web


def neighbours(web):
    """The ascending lists of the neighbours of each of the folk of a checked web."""
    many, streets = web
    near = [[] for _ in range(many)]
    for one, other in streets:
        near[one].append(other)
        near[other].append(one)
    return near


def distances(near, start):
    """How many streets it is from start to each of the folk, None for no way."""
    found = [None] * len(near)
    found[start] = 0
    row = [start]
    while row:
        following = []
        for one in row:
            for other in near[one]:
                if found[other] is None:
                    found[other] = found[one] + 1
                    following.append(other)
        row = following
    return found


def part_of(near, start):
    """The ascending tuple of the folk in the part of start."""
    found = distances(near, start)
    return tuple([one for one, steps in enumerate(found) if steps is not None])


def lots_of(near):
    """The ascending list of the ascending tuples of the folk of each part."""
    lots = [part_of(near, one) for one in range(len(near))]
    # Each part is found once for each of its folk; the least of them gives it.
    return [lot for one, lot in enumerate(lots) if lot[0] == one]


def parts(web):
    """The ascending tuple of the ascending tuples of the folk of each part."""
    check_web(web)
    return tuple(lots_of(neighbours(web)))


def far(web, one, other):
    """The least number of streets from one to another, None without a way."""
    check_web(web)
    check_folk(web, one)
    check_folk(web, other)
    return distances(neighbours(web), one)[other]
