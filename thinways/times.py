"""Keeps of told times: no two places are more than t times as far in the keep as in the web."""

from thinways.errors import NoTimes
from thinways.heights import across, heights_from, heights_hold
from thinways.kinds import is_told, is_tuple_of, is_whole
from thinways.webs import is_tie_number, whole
from thinways.ways import far, leads_between, the_way, way_length


def need_times(t):
    if not is_whole(t) or not 1 <= t <= 99:
        raise NoTimes("times are a whole number from 1 to 99")


def not_kept(web, keep):
    return [tie for tie in whole(web) if tie not in keep]


def way_of(web, keep, tie):
    a, b, length = web[1][tie]
    return the_way(web, keep, a, b)


def is_within(web, tie, t, way):
    return way is not None and way_length(web, way) <= t * web[1][tie][2]


# The roof is one more than what is asked for, so that it shows the ends apart and stays as low as can be.
def heights_of(web, keep, tie, t):
    a, b, length = web[1][tie]
    return heights_from(web, keep, a, t * length + 1)


# A way from the lesser end of the tie to the other that shows it to be within its times.
def way_within(web, keep, tie, t, way):
    a, b, length = web[1][tie]
    return leads_between(web, keep, a, b, way) and is_within(web, tie, t, way)


# Heights that show the ends of the tie to be farther than its times.
def heights_beyond(web, keep, tie, t, heights):
    return heights_hold(web, keep, heights) and across(web, tie, heights) > t * web[1][tie][2]


def times_told(web, keep, t):
    need_times(t)
    ways = []
    for tie in not_kept(web, keep):
        way = way_of(web, keep, tie)
        if not is_within(web, tie, t, way):
            return ("far", tie, heights_of(web, keep, tie, t))
        ways.append(way)
    return ("keeps", tuple(ways))


def ways_right(web, keep, t, ways):
    ties = not_kept(web, keep)
    if not is_tuple_of(ways, len(ties)):
        return False
    return all([way_within(web, keep, tie, t, way) for tie, way in zip(ties, ways)])


def far_right(web, keep, t, tie, heights):
    if not is_tie_number(web, tie) or tie in keep:
        return False
    return heights_beyond(web, keep, tie, t, heights)


def times_right(web, keep, t, told):
    need_times(t)
    if is_told(told, "keeps", 2):
        return ways_right(web, keep, t, told[1])
    if is_told(told, "far", 3):
        return far_right(web, keep, t, told[1], told[2])
    return False


def common_part(one, other):
    while other > 0:
        rest = one % other
        one = other
        other = rest
    return one


# No way grows by more than the tie, of those it goes along, that grows the most: so ties alone are looked at.
def least_ratio(web, keep):
    top = 1
    bottom = 1
    for tie in not_kept(web, keep):
        a, b, length = web[1][tie]
        grown = far(web, keep, a, b)
        if grown is None:
            return None
        if grown * bottom > top * length:
            top = grown
            bottom = length
    part = common_part(top, bottom)
    return (top // part, bottom // part)
