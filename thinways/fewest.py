"""The keep of the fewest ties that is of told times, with a tree of cases which shows that none has fewer."""

from thinways.cases import kept_show, not_among
from thinways.errors import TooMany
from thinways.rule import with_tie
from thinways.times import need_times, times_told
from thinways.webs import whole


# Each keep by each tie behind its last one: so all of one size come out once, and first the first as tuples.
def one_tie_more(web, keeps):
    told = []
    for keep in keeps:
        behind = [tie for tie in whole(web) if keep == () or tie > keep[-1]]
        told.extend([keep + (tie,) for tie in behind])
    return told


def first_fewest(web, t):
    keeps = [()]
    while True:
        for keep in keeps:
            if times_told(web, keep, t)[0] == "keeps":
                return keep
        keeps = one_tie_more(web, keeps)


# A case ends where as many are shown as the fewest are, or where a tie left out is too far even by all others.
# With all ties decided one of both is so, since no keep of these times has fewer.
def tree_of(web, t, many, kept, out):
    if kept_show(web, kept) >= many:
        return ("kept",)
    told = times_told(web, not_among(web, out), t)
    if told[0] == "far":
        return told
    tie = not_among(web, kept + out)[0]
    one = tree_of(web, t, many, with_tie(kept, tie), out)
    return ("tie", tie, one, tree_of(web, t, many, kept, with_tie(out, tie)))


def fewest(web, t):
    need_times(t)
    if len(web[1]) > 10:
        raise TooMany("the fewest are told of webs with at most ten ties")
    keep = first_fewest(web, t)
    return (keep, tree_of(web, t, len(keep), (), ()))
