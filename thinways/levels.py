"""Levels, posts behind posts: the bunch of a place, its pivots, and the climb from one place to another."""

from thinways.errors import NoLevels
from thinways.kinds import is_rising
from thinways.ways import are_unlike_places, fars_from
from thinways.webs import whole


def is_level(web, thing):
    return are_unlike_places(web, thing) and is_rising(thing)


def lies_within(level, ahead):
    return all([place in ahead for place in level])


def are_levels(web, thing):
    if not isinstance(thing, tuple) or not 1 <= len(thing) <= 6:
        return False
    if not all([is_level(web, level) for level in thing]) or len(thing[0]) != web[0]:
        return False
    return all([lies_within(level, ahead) for ahead, level in zip(thing, thing[1:])])


def need_levels(web, levels):
    if not are_levels(web, levels):
        raise NoLevels("levels are one to six rising tuples of places, first all, then each some of the one ahead")


def top_of(levels, place):
    return max([number for number, level in enumerate(levels) if place in level])


# Behind the last level there is none: no way leads from it either.
def nearest_of(levels, number, fars):
    if number == len(levels):
        return None
    return min([fars[place] for place in levels[number] if fars[place] is not None], default=None)


# Both take how far all places are from the one that is asked about.
def is_bunched(levels, fars, w):
    if fars[w] is None:
        return False
    behind = nearest_of(levels, top_of(levels, w) + 1, fars)
    return behind is None or fars[w] < behind


def pivot_by(levels, i, fars):
    near = [(fars[place], 0 - top_of(levels, place), place) for place in levels[i] if fars[place] is not None]
    if len(near) == 0:
        return None
    return min(near)[2]


def web_fars(web, place):
    return fars_from(web, whole(web), place)


def bunch(web, levels, v):
    need_levels(web, levels)
    fars = web_fars(web, v)
    return tuple([(w, length) for w, length in enumerate(fars) if is_bunched(levels, fars, w)])


def pivot(web, levels, i, v):
    need_levels(web, levels)
    return pivot_by(levels, i, web_fars(web, v))


# Where one isn't in the bunch a way leads from the level behind its top: so there is always a pivot to go on with.
def climb(web, levels, u, v):
    need_levels(web, levels)
    here = web_fars(web, u)
    there = web_fars(web, v)
    if here[v] is None:
        return None
    told = [(u, u, v, 0)]
    while not is_bunched(levels, there, told[-1][0]):
        w, start, end, length = told[-1]
        w = pivot_by(levels, top_of(levels, w) + 1, there)
        told.append((w, end, start, there[w]))
        here, there = (there, here)
    return tuple(told)
