"""The least forest: of the shortest keeps in which the pieces of the web hang together the one by the order."""

from thinways.kinds import is_tuple_of
from thinways.times import not_kept, way_of
from thinways.ways import leads_between, ties_along
from thinways.webs import is_keep, order_of


# Of ties gone through in this order those that close no ring with the ones ahead.
def ringless(web, ties):
    marks = list(range(web[0]))
    told = []
    for tie in ties:
        a, b, length = web[1][tie]
        one = marks[a]
        other = marks[b]
        if one != other:
            marks = [one if mark == other else mark for mark in marks]
            told.append(tie)
    return told


def least_forest(web):
    return tuple(sorted(ringless(web, order_of(web))))


def forest_paper(web):
    keep = least_forest(web)
    return tuple([way_of(web, keep, tie) for tie in not_kept(web, keep)])


def is_ahead(web, one, other):
    return (web[1][one][2], one) < (web[1][other][2], other)


# A tie that lies behind all others of a ring is none of the least forest: so such a way shows it to be outside.
def way_ahead(web, keep, tie, way):
    a, b, length = web[1][tie]
    if not leads_between(web, keep, a, b, way):
        return False
    return all([is_ahead(web, other, tie) for other in ties_along(web, way)])


def forest_right(web, told):
    if not is_tuple_of(told, 2):
        return False
    keep, ways = told
    if not is_keep(web, keep) or len(ringless(web, keep)) < len(keep):
        return False
    ties = not_kept(web, keep)
    if not is_tuple_of(ways, len(ties)):
        return False
    return all([way_ahead(web, keep, tie, way) for tie, way in zip(ties, ways)])
