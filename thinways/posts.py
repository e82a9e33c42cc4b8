"""Posts: places from which each place stays as far in the keep as in the web."""

from thinways.heights import heights_from, heights_hold
from thinways.kinds import is_tuple_of
from thinways.ways import tree_from
from thinways.webs import tie_between, whole


def tree_ties(web, tree):
    return [tie_between(web, place, ahead) for place, ahead in enumerate(tree) if ahead is not None]


def post_trees(web, posts):
    ties = []
    for post in posts:
        ties.extend(tree_ties(web, tree_from(web, whole(web), post)))
    return tuple(sorted(set(ties)))


# No way of any web is as long as this roof: it stands where no way leads alone.
def web_heights(web, place):
    return heights_from(web, whole(web), place, 10 ** 20)


def out_of_reach(height):
    return height >= 10 ** 20


def post_paper(web, posts):
    return tuple([web_heights(web, post) for post in posts])


# Places that a kept tie shows to be as far from the post as their height says, if the lower end is.
def led_to(web, keep, heights):
    told = []
    for tie in keep:
        a, b, length = web[1][tie]
        if heights[b] - heights[a] == length:
            told.append(b)
        if heights[a] - heights[b] == length:
            told.append(a)
    return told


def post_right(web, keep, post, heights):
    if not heights_hold(web, whole(web), heights) or heights[post] != 0:
        return False
    fine = [post] + led_to(web, keep, heights)
    return all([place in fine or out_of_reach(height) for place, height in enumerate(heights)])


def posts_right(web, keep, posts, paper):
    if not is_tuple_of(paper, len(posts)):
        return False
    return all([post_right(web, keep, post, heights) for post, heights in zip(posts, paper)])
