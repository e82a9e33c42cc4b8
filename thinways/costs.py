"""What the fall of a kept tie costs: the way round it, or the piece that it parts."""

from thinways.heights import across, heights_from, heights_hold
from thinways.kinds import is_rising, is_told
from thinways.spares import spare, without
from thinways.ways import are_unlike_places, leads_between, piece_of, way_length


def cost_of(web, keep, tie):
    a, b, length = web[1][tie]
    rest = without(keep, tie)
    way = spare(web, keep, tie)
    if way is None:
        return ("apart", piece_of(web, rest, a))
    return ("round", way, heights_from(web, rest, a, way_length(web, way)))


# The way shows that it costs no more, the heights that it costs no less.
def round_right(web, keep, tie, way, heights):
    a, b, length = web[1][tie]
    rest = without(keep, tie)
    if not leads_between(web, rest, a, b, way) or not heights_hold(web, rest, heights):
        return False
    return across(web, tie, heights) == way_length(web, way)


def leads_out(web, places, tie):
    a, b, length = web[1][tie]
    return (a in places) != (b in places)


def apart_right(web, keep, tie, places):
    if not are_unlike_places(web, places) or not is_rising(places):
        return False
    a, b, length = web[1][tie]
    if a not in places or b in places:
        return False
    return not any([leads_out(web, places, other) for other in without(keep, tie)])


def cost_right(web, keep, tie, told):
    if is_told(told, "round", 3):
        return round_right(web, keep, tie, told[1], told[2])
    if is_told(told, "apart", 2):
        return apart_right(web, keep, tie, told[1])
    return False
