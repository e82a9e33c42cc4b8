"""Guards of plain webs: few places that guard many, and a keep by them in which no way grows by more than two."""

from thinways.errors import NoShare
from thinways.kinds import is_rising, is_tuple_of, is_whole
from thinways.more import need_plain
from thinways.posts import post_paper, post_trees, posts_right
from thinways.rings import neighbours
from thinways.times import not_kept
from thinways.ways import are_unlike_places
from thinways.webs import is_place, tie_between, whole


def need_share(d):
    if not is_whole(d) or d < 1:
        raise NoShare("a share is a whole number from 1 on")


def bare_neighbours(web, place, guarded):
    return [other for other in sorted(neighbours(web, whole(web), place)) if other not in guarded]


# No place gets neighbours that aren't guarded: so one that is passed by is never due again, and one walk will do.
def guards_by(web, d):
    need_plain(web)
    need_share(d)
    told = []
    guarded = []
    for place in range(web[0]):
        bare = bare_neighbours(web, place, guarded)
        if len(bare) >= d:
            told.append((place, tuple(bare)))
            guarded.extend(bare)
    return tuple(told)


def all_guarded(told):
    guarded = []
    for guard, places in told:
        guarded.extend(places)
    return guarded


def guard_right(web, d, pair):
    if not is_tuple_of(pair, 2) or not is_place(web, pair[0]) or not are_unlike_places(web, pair[1]):
        return False
    guard, places = pair
    if not is_rising(places) or len(places) < d:
        return False
    return all([tie_between(web, guard, place) is not None for place in places])


def guards_right(web, d, told):
    need_plain(web)
    need_share(d)
    if not isinstance(told, tuple) or not all([guard_right(web, d, pair) for pair in told]):
        return False
    guards = [guard for guard, places in told]
    guarded = all_guarded(told)
    if len(set(guards)) < len(guards) or len(set(guarded)) < len(guarded):
        return False
    return all([len(bare_neighbours(web, place, guarded)) < d for place in range(web[0])])


def bare_ties(web, told):
    guarded = all_guarded(told)
    return [tie for tie in whole(web) if web[1][tie][0] not in guarded or web[1][tie][1] not in guarded]


def posts_of(told):
    return tuple(sorted([guard for guard, places in told]))


def guard_keep(web, told):
    need_plain(web)
    return tuple(sorted(set(bare_ties(web, told)) | set(post_trees(web, posts_of(told)))))


def guard_of(told, place):
    for guard, places in told:
        if place in places:
            return guard
    return None


# Both ends of a tie that isn't kept are guarded, so the lesser one always has its guard.
def two_paper(web, told):
    ends = [web[1][tie][0] for tie in not_kept(web, guard_keep(web, told))]
    posts = posts_of(told)
    return (posts, post_paper(web, posts), tuple([(end, guard_of(told, end)) for end in ends]))


def side_right(web, posts, tie, side):
    if not is_tuple_of(side, 2):
        return False
    end, post = side
    if not is_place(web, end) or end not in web[1][tie][:2] or not is_place(web, post) or post not in posts:
        return False
    return end == post or tie_between(web, end, post) is not None


def two_right(web, keep, paper):
    need_plain(web)
    if not is_tuple_of(paper, 3):
        return False
    posts, heights, sides = paper
    if not are_unlike_places(web, posts) or not is_rising(posts) or not posts_right(web, keep, posts, heights):
        return False
    ties = not_kept(web, keep)
    if not is_tuple_of(sides, len(ties)):
        return False
    return all([side_right(web, posts, tie, side) for tie, side in zip(ties, sides)])
