"""A keep of plain webs, by the heaps of guards and by ways that are bought, in which no way grows by more than six."""

from thinways.guards import bare_ties, guards_by
from thinways.kinds import is_all_wholes
from thinways.ways import fars_from, the_way, ties_along
from thinways.webs import tie_between, whole


def kept_at_first(web, guards):
    ties = bare_ties(web, guards)
    for guard, places in guards:
        ties.extend([tie_between(web, guard, place) for place in places])
    return tuple(sorted(set(ties)))


def is_wanted(near, kept):
    return near is not None and (kept is None or kept - near > 6)


def first_wanted(web, keep, u):
    near = fars_from(web, whole(web), u)
    kept = fars_from(web, keep, u)
    for v in range(u + 1, web[0]):
        if is_wanted(near[v], kept[v]):
            return v
    return None


# For each two places how far they are along the way, None where one of them isn't on it.
def fars_along(web, way):
    rows = [[None] * web[0] for place in range(web[0])]
    for i, one in enumerate(way):
        for j, other in enumerate(way):
            rows[one][other] = abs(i - j)
    return rows


def nearest(fars, heap, other):
    lengths = []
    for place in heap:
        lengths.extend([fars[place][there] for there in other if fars[place][there] is not None])
    return min(lengths, default=None)


def gained_by(web, keep, guards, way):
    along = fars_along(web, way)
    ahead = [fars_from(web, keep, place) for place in range(web[0])]
    gained = []
    for guard, heap in guards:
        for other, places in guards:
            now = nearest(along, heap, places)
            if guard >= other or now is None:
                continue
            before = nearest(ahead, heap, places)
            if before is None or now < before:
                gained.append((guard, other))
    return tuple(sorted(gained))


# What is passed by stays as near while more is kept, so after each way the first that is wanted now is the next.
def six_told(web, d):
    guards = guards_by(web, d)
    keep = kept_at_first(web, guards)
    ledger = []
    for u in range(web[0]):
        v = first_wanted(web, keep, u)
        while v is not None:
            way = the_way(web, whole(web), u, v)
            bought = [tie for tie in ties_along(web, way) if tie not in keep]
            ledger.append((u, v, len(bought), gained_by(web, keep, guards, way)))
            keep = tuple(sorted(keep + tuple(bought)))
            v = first_wanted(web, keep, u)
    return (keep, tuple(ledger))


def six_right(web, d, told):
    # Python takes True for 1, so what is alike may still hold what is no whole number.
    return told == six_told(web, d) and is_all_wholes(told)
