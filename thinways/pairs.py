"""Pairs of places whose ways are kept as they are, and the places where such ways part."""

from thinways.heights import heights_hold
from thinways.kinds import is_tuple_of
from thinways.posts import out_of_reach, web_heights
from thinways.ways import leads_between, the_way, ties_along, way_length
from thinways.webs import is_keep, whole


def ties_of_ways(web, ways):
    ties = []
    for way in ways:
        if way is not None:
            ties.extend(ties_along(web, way))
    return tuple(sorted(set(ties)))


def pairs_told(web, pairs):
    ways = tuple([the_way(web, whole(web), a, b) for a, b in pairs])
    heights = tuple([web_heights(web, a) for a, b in pairs])
    return (ties_of_ways(web, ways), ways, heights)


# The heights show that no way is shorter, or that none leads there.
def pair_right(web, keep, pair, way, heights):
    if not heights_hold(web, whole(web), heights):
        return False
    a, b = pair
    rise = heights[b] - heights[a]
    if way is None:
        return out_of_reach(rise)
    return leads_between(web, keep, a, b, way) and rise == way_length(web, way)


def pairs_right(web, pairs, told):
    if not is_tuple_of(told, 3):
        return False
    keep, ways, papers = told
    if not is_keep(web, keep) or not is_tuple_of(ways, len(pairs)) or not is_tuple_of(papers, len(pairs)):
        return False
    if not all([pair_right(web, keep, pair, way, heights) for pair, way, heights in zip(pairs, ways, papers)]):
        return False
    return ties_of_ways(web, ways) == keep


def shared_by(one, other):
    if one is None or other is None:
        return []
    return [place for place in one if place in other]


# A stretch of one place is told twice: there two ways part as well as come together.
def partings(ways):
    told = []
    for j, other in enumerate(ways):
        for i, one in enumerate(ways[:j]):
            shared = shared_by(one, other)
            if len(shared) > 0:
                told.extend([(i, j, shared[0]), (i, j, shared[-1])])
    return tuple(sorted(told))
