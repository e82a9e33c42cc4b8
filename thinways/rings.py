"""Rings in a keep: the one of the least size and the shortest one."""

from thinways.spares import by_steps, spare, without
from thinways.ways import are_unlike_places, cost_along, far, fars_from, ties_along


def ring_right(web, keep, ring):
    if not are_unlike_places(web, ring) or len(ring) < 3:
        return False
    if ring[0] != min(ring) or ring[1] > ring[-1]:
        return False
    return all([tie in keep for tie in ties_along(web, ring + ring[:1])])


def neighbours(web, keep, place):
    ties = [web[1][tie] for tie in keep]
    return [b for a, b, length in ties if a == place] + [a for a, b, length in ties if b == place]


# Of the ways with the fewest steps the first as tuples: each time the least place that is a step nearer.
def first_by_steps(steps, keep, start, end):
    left = fars_from(steps, keep, end)
    way = [start]
    while way[-1] != end:
        nearer = [place for place in neighbours(steps, keep, way[-1]) if left[place] == left[way[-1]] - 1]
        way.append(min(nearer))
    return way


# The first two places of a ring are the ends of the least of its ties, since ties rise by their ends.
# So of all rings of the least size the first begins with the ends of the first tie that is in one.
def least_ring(web, keep):
    steps = by_steps(web)
    best = None
    first = None
    for tie in keep:
        a, b, length = web[1][tie]
        size = far(steps, without(keep, tie), a, b)
        if size is not None and (best is None or size < best):
            best = size
            first = tie
    if first is None:
        return None
    a, b, length = web[1][first]
    return (a,) + tuple(first_by_steps(steps, without(keep, first), b, a)[:-1])


# From the lesser end to the other one, then back along the spare. So it begins as a ring has to
# where this tie is the one with the least number in it.
def round_by(web, keep, tie):
    way = spare(web, keep, tie)
    if way is None:
        return None
    return way[:1] + tuple(reversed(way[1:]))


# The best ring is met by each of its ties, first by that of the least number, which begins it rightly.
def shortest_ring(web, keep):
    best = None
    least = None
    for tie in keep:
        ring = round_by(web, keep, tie)
        if ring is None:
            continue
        cost = cost_along(web, ring + ring[:1])
        if least is None or cost < least:
            best = ring
            least = cost
    return best
