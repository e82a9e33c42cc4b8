"""The rule of rings: a tie is kept just where the ties kept ahead of it lead too far round."""

from thinways.errors import NoOrder
from thinways.kinds import is_told, is_tuple_of, is_wholes
from thinways.spares import spare
from thinways.times import heights_beyond, heights_of, is_within, need_times, way_of, way_within
from thinways.webs import order_of, whole


def with_tie(keep, tie):
    return tuple(sorted(keep + (tie,)))


def reason_of(web, keep, tie, t):
    way = way_of(web, keep, tie)
    if is_within(web, tie, t, way):
        return ("way", way)
    return ("heights", heights_of(web, keep, tie, t))


def ruled(web, order, t):
    keep = ()
    reasons = []
    for tie in order:
        reason = reason_of(web, keep, tie, t)
        if reason[0] == "heights":
            keep = with_tie(keep, tie)
        reasons.append(reason)
    return (keep, tuple(reasons))


def ring_rule(web, t):
    need_times(t)
    return ruled(web, order_of(web), t)


def rule_in(web, order, t):
    need_times(t)
    if not is_wholes(order) or tuple(sorted(order)) != whole(web):
        raise NoOrder("an order is a tuple of all numbers of ties, each once")
    keep, reasons = ruled(web, order, t)
    return keep


# The keep that the reasons show, or None where one of them shows nothing.
def shown_keep(web, t, reasons):
    keep = ()
    for tie, reason in zip(order_of(web), reasons):
        if is_told(reason, "heights", 2) and heights_beyond(web, keep, tie, t, reason[1]):
            keep = with_tie(keep, tie)
        elif not is_told(reason, "way", 2) or not way_within(web, keep, tie, t, reason[1]):
            return None
    return keep


def rule_right(web, t, told):
    need_times(t)
    if not is_tuple_of(told, 2):
        return False
    keep, reasons = told
    if not is_wholes(keep) or not is_tuple_of(reasons, len(web[1])):
        return False
    return keep == shown_keep(web, t, reasons)


def needed(web, keep, t):
    need_times(t)
    return tuple([tie for tie in keep if not is_within(web, tie, t, spare(web, keep, tie))])
