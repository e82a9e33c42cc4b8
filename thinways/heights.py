"""Heights: a number for each place that differs across each kept tie by at most its length."""

from thinways.kinds import is_wholes
from thinways.ways import fars_from


def across(web, tie, heights):
    a, b, length = web[1][tie]
    return abs(heights[a] - heights[b])


def heights_hold(web, keep, heights):
    if not is_wholes(heights) or len(heights) != web[0]:
        return False
    return all([across(web, tie, heights) <= web[1][tie][2] for tie in keep])


def heights_from(web, keep, a, roof):
    return tuple([roof if length is None else min(length, roof) for length in fars_from(web, keep, a)])
