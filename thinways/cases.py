"""Trees of cases: each tie kept or left out, till it shows how many ties a keep of told times has at least."""

from thinways.forest import ringless
from thinways.kinds import is_told
from thinways.rule import with_tie
from thinways.times import heights_beyond, need_times
from thinways.webs import is_tie_number, whole


# Each tie more joins two pieces at most, so the pieces that are too many have to be paid for.
def kept_show(web, kept):
    return len(kept) + len(ringless(web, whole(web))) - len(ringless(web, kept))


def not_among(web, out):
    return tuple([tie for tie in whole(web) if tie not in out])


# No keep at all is of these times then, so more is shown than any keep has.
def far_show(web, t, out, tie, heights):
    if not is_tie_number(web, tie) or tie not in out:
        return None
    if not heights_beyond(web, not_among(web, out), tie, t, heights):
        return None
    return len(web[1]) + 1


def is_undecided(web, kept, out, tie):
    return is_tie_number(web, tie) and tie not in kept and tie not in out


def shown(web, t, tree, kept, out):
    if is_told(tree, "kept", 1):
        return kept_show(web, kept)
    if is_told(tree, "far", 3):
        return far_show(web, t, out, tree[1], tree[2])
    if not is_told(tree, "tie", 4) or not is_undecided(web, kept, out, tree[1]):
        return None
    one = shown(web, t, tree[2], with_tie(kept, tree[1]), out)
    other = shown(web, t, tree[3], kept, with_tie(out, tree[1]))
    if one is None or other is None:
        return None
    return min(one, other)


def cases_show(web, t, tree):
    need_times(t)
    return shown(web, t, tree, (), ())
