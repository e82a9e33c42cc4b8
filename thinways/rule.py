"""The rule of rings: a tie is kept just where the ties kept ahead of it lead too far round."""

from thinways.errors import NoOrder
from thinways.kinds import is_told, is_tuple_of, is_wholes
from thinways.spares import spare
from thinways.times import heights_beyond, heights_of, is_within, need_times, way_of, way_within
from thinways.webs import order_of, whole


def with_tie(keep, tie):
    return tuple(sorted(keep + (tie,)))


def reason_of(web, keep, tie, t):
    way = way_of(web, keep, tie)
    if is_within(web, tie, t, way):
        return ("way", way)
    return ("heights", heights_of(web, keep, tie, t))


# Goes through ties behind those kept ahead; a tie is kept where its reason has this word.
def ruled(keep, ties, word, reason_for):
    reasons = []
    for tie in ties:
        reason = reason_for(keep, tie)
        if reason[0] == word:
            keep = with_tie(keep, tie)
        reasons.append(reason)
    return (keep, tuple(reasons))


def ruled_behind(web, keep, ties, t):
    return ruled(keep, ties, "heights", lambda ahead, tie: reason_of(web, ahead, tie, t))


def ring_rule(web, t):
    need_times(t)
    return ruled_behind(web, (), order_of(web), t)


def rule_in(web, order, t):
    need_times(t)
    if not is_wholes(order) or tuple(sorted(order)) != whole(web):
        raise NoOrder("an order is a tuple of all numbers of ties, each once")
    keep, reasons = ruled_behind(web, (), order, t)
    return keep


# The verdict on a reason is True where it shows the tie to be kept, False where not to be, None where it shows nothing.
def shown_keep(web, reasons, verdict):
    keep = ()
    for tie, reason in zip(order_of(web), reasons):
        kept = verdict(keep, tie, reason)
        if kept is None:
            return None
        if kept:
            keep = with_tie(keep, tie)
    return keep


def reasons_right(web, told, verdict):
    if not is_tuple_of(told, 2):
        return False
    keep, reasons = told
    if not is_wholes(keep) or not is_tuple_of(reasons, len(web[1])):
        return False
    return keep == shown_keep(web, reasons, verdict)


def ring_verdict(web, keep, tie, t, reason):
    if is_told(reason, "heights", 2) and heights_beyond(web, keep, tie, t, reason[1]):
        return True
    if is_told(reason, "way", 2) and way_within(web, keep, tie, t, reason[1]):
        return False
    return None


def rule_right(web, t, told):
    need_times(t)
    return reasons_right(web, told, lambda keep, tie, reason: ring_verdict(web, keep, tie, t, reason))


def needed(web, keep, t):
    need_times(t)
    return tuple([tie for tie in keep if not is_within(web, tie, t, spare(web, keep, tie))])
