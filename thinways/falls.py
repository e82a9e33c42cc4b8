"""Keeps that bear falls: whichever few ties fall, those that stand lead within the times."""

from thinways.errors import NoFalls, TooMany
from thinways.kinds import is_told, is_tuple_of, is_whole
from thinways.rule import with_tie
from thinways.times import heights_beyond, heights_of, is_within, need_times, not_kept, way_of, way_within
from thinways.ways import ties_along
from thinways.webs import is_keep, is_tie_number


def need_falls(web, t, f):
    need_times(t)
    if web[0] > 12:
        raise TooMany("falls are told of webs with at most twelve places")
    if not is_whole(f) or not 0 <= f <= 2:
        raise NoFalls("falls are 0, 1 or 2")


def standing(keep, fallen):
    return tuple([tie for tie in keep if tie not in fallen])


# ("ways", tree), or ("falls", fallen, heights) where some fallen ties leave none within the times. What leaves none
# has a tie of each such way: so it is enough to let the ties of one way fall, one after the other.
def tree_or_fall(web, keep, tie, t, f, fallen):
    rest = standing(keep, fallen)
    way = way_of(web, rest, tie)
    if not is_within(web, tie, t, way):
        return ("falls", fallen, heights_of(web, rest, tie, t))
    if len(fallen) == f:
        return ("ways", (way, ()))
    below = []
    for other in ties_along(web, way):
        found = tree_or_fall(web, keep, tie, t, f, with_tie(fallen, other))
        if found[0] == "falls":
            return found
        below.append(found[1])
    return ("ways", (way, tuple(below)))


def falls_told(web, keep, t, f):
    need_falls(web, t, f)
    trees = []
    for tie in not_kept(web, keep):
        found = tree_or_fall(web, keep, tie, t, f, ())
        if found[0] == "falls":
            return ("breaks", tie, found[1], found[2])
        trees.append(found[1])
    return ("bears", tuple(trees))


def tree_right(web, keep, tie, t, f, fallen, tree):
    if not is_tuple_of(tree, 2) or not way_within(web, standing(keep, fallen), tie, t, tree[0]):
        return False
    way, below = tree
    if len(fallen) == f:
        return below == ()
    ties = ties_along(web, way)
    if not is_tuple_of(below, len(ties)):
        return False
    pairs = list(zip(ties, below))
    return all([tree_right(web, keep, tie, t, f, with_tie(fallen, other), part) for other, part in pairs])


def all_right(web, keep, t, f, trees):
    ties = not_kept(web, keep)
    if not is_tuple_of(trees, len(ties)):
        return False
    return all([tree_right(web, keep, tie, t, f, (), tree) for tie, tree in zip(ties, trees)])


def fall_shown(web, keep, tie, t, f, fallen, heights):
    if not is_keep(web, fallen) or len(fallen) > f or not all([other in keep for other in fallen]):
        return False
    return heights_beyond(web, standing(keep, fallen), tie, t, heights)


def falls_right(web, keep, t, f, told):
    need_falls(web, t, f)
    if is_told(told, "bears", 2):
        return all_right(web, keep, t, f, told[1])
    if not is_told(told, "breaks", 4) or not is_tie_number(web, told[1]) or told[1] in keep:
        return False
    return fall_shown(web, keep, told[1], t, f, told[2], told[3])
