"""Spares of kept ties, and heights which show that no ring has few ties."""

from thinways.heights import across, heights_from, heights_hold
from thinways.kinds import is_tuple_of
from thinways.ways import the_way


def without(keep, tie):
    return tuple([other for other in keep if other != tie])


# The ties keep their numbers, so a keep of the web is one of this as well.
def by_steps(web):
    return (web[0], tuple([(a, b, 1) for a, b, length in web[1]]))


def spare(web, keep, tie):
    a, b, length = web[1][tie]
    return the_way(web, without(keep, tie), a, b)


def none_fewer(web, keep, g):
    steps = by_steps(web)
    told = []
    for tie in keep:
        heights = heights_from(steps, without(keep, tie), web[1][tie][0], g - 1)
        if across(steps, tie, heights) < g - 1:
            return None
        told.append(heights)
    return tuple(told)


def parts_ends(steps, keep, tie, g, heights):
    return heights_hold(steps, without(keep, tie), heights) and across(steps, tie, heights) >= g - 1


def fewer_right(web, keep, g, told):
    if not is_tuple_of(told, len(keep)):
        return False
    steps = by_steps(web)
    return all([parts_ends(steps, keep, tie, g, heights) for tie, heights in zip(keep, told)])
