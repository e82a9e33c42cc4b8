"""The rule by falls: a tie is kept just where, some of the ties kept ahead fallen, the others lead too far round."""

from thinways.falls import fall_shown, need_falls, tree_or_fall, tree_right
from thinways.kinds import is_told
from thinways.rule import reasons_right, ruled
from thinways.webs import order_of


def fall_rule(web, t, f):
    need_falls(web, t, f)
    return ruled((), order_of(web), "falls", lambda keep, tie: tree_or_fall(web, keep, tie, t, f, ()))


def fall_verdict(web, keep, tie, t, f, reason):
    if is_told(reason, "falls", 3) and fall_shown(web, keep, tie, t, f, reason[1], reason[2]):
        return True
    if is_told(reason, "ways", 2) and tree_right(web, keep, tie, t, f, (), reason[1]):
        return False
    return None


def fall_right(web, t, f, told):
    need_falls(web, t, f)
    return reasons_right(web, told, lambda keep, tie, reason: fall_verdict(web, keep, tie, t, f, reason))
