"""Thinned webs: what the rule keeps while ties fall and come, made anew only where it may change."""

from thinways.errors import NoLength, NoTie
from thinways.rule import reason_of, ring_rule, ruled_behind, with_tie
from thinways.webs import is_length, is_place, made_web, order_of, tie_between


def pairs_kept(web, keep):
    return [web[1][tie][:2] for tie in keep]


# Ties are numbered anew with each that falls or comes, their ends stay.
def keep_of_pairs(web, pairs):
    return tuple([tie_between(web, a, b) for a, b in pairs])


# Where a tie stands in the order, told by itself: so it holds of a web that doesn't have it, too.
def rank_of(tie):
    a, b, length = tie
    return (length, a, b)


def kept_ahead(web, keep, tie):
    return tuple([number for number in keep if rank_of(web[1][number]) < rank_of(tie)])


def all_behind(web, tie):
    return [number for number in order_of(web) if rank_of(web[1][number]) > rank_of(tie)]


def made_behind(web, ahead, tie, t):
    behind = all_behind(web, tie)
    keep, reasons = ruled_behind(web, ahead, behind, t)
    return (web, keep, len(behind))


# Both tell the web and the keep behind the deed, and how many ties were gone through anew.
def web_without(web, keep, t, a, b):
    number = tie_between(web, a, b)
    if number is None:
        raise NoTie("no tie is there that could fall")
    tie = web[1][number]
    less = (web[0], web[1][:number] + web[1][number + 1:])
    same = keep_of_pairs(less, [pair for pair in pairs_kept(web, keep) if pair != tie[:2]])
    if number not in keep:
        return (less, same, 0)
    return made_behind(less, kept_ahead(less, same, tie), tie, t)


def web_with(web, keep, t, a, b, length):
    if tie_between(web, a, b) is not None:
        raise NoTie("a tie is there already")
    if a == b or not is_place(web, a) or not is_place(web, b):
        raise NoTie("no tie can be there")
    if len(web[1]) == 60:
        raise NoTie("a web has at most sixty ties")
    if not is_length(length):
        raise NoLength("a length is from 1 to 10 ** 18")
    more = made_web(web[0], web[1] + ((a, b, length),))
    same = keep_of_pairs(more, pairs_kept(web, keep))
    number = tie_between(more, a, b)
    ahead = kept_ahead(more, same, more[1][number])
    if reason_of(more, ahead, number, t)[0] == "way":
        return (more, same, 0)
    return made_behind(more, with_tie(ahead, number), more[1][number], t)


def left_out(pairs, others):
    return tuple([pair for pair in pairs if pair not in others])


class Thinned:
    def __init__(self, web, t):
        keep, reasons = ring_rule(web, t)
        self.times = t
        # The webs with their keeps, as they were and, at the end, as they are now.
        self.past = [(web, keep)]
        self.many = 0

    def web(self):
        return self.past[-1][0]

    def keep(self):
        return self.past[-1][1]

    def gone_through(self):
        return self.many

    def changed(self, web, keep, many):
        before = pairs_kept(self.web(), self.keep())
        now = pairs_kept(web, keep)
        self.past.append((web, keep))
        self.many = many
        return (left_out(before, now), left_out(now, before))

    def fall(self, a, b):
        web, keep, many = web_without(self.web(), self.keep(), self.times, a, b)
        return self.changed(web, keep, many)

    def come(self, a, b, length):
        web, keep, many = web_with(self.web(), self.keep(), self.times, a, b, length)
        return self.changed(web, keep, many)

    def back(self):
        if len(self.past) == 1:
            return False
        self.past.pop()
        self.many = 0
        return True
