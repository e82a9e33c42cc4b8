"""Near and light: a keep in which all is near a root, and which is not much longer than the least forest."""

from thinways.forest import forest_paper, forest_right, least_forest
from thinways.heights import heights_hold
from thinways.kinds import is_tuple_of
from thinways.pairs import ties_of_ways
from thinways.posts import out_of_reach, web_heights
from thinways.rings import neighbours
from thinways.ways import fars_from, led_to_root, piece_of, the_way, tree_from, way_length
from thinways.webs import kept_length, whole


def first_new(web, forest, place, seen):
    new = [other for other in neighbours(web, forest, place) if other not in seen]
    return min(new, default=None)


# Where the walk has grown too long for a place, the way from the root to it is bought, and the walk goes on from there.
def put_in(web, forest, root, p, q):
    fars = fars_from(web, whole(web), root)
    trail = [root]
    seen = [root]
    put = []
    count = 0
    while len(trail) > 0:
        here = trail[-1]
        place = first_new(web, forest, here, seen)
        if place is None:
            trail.pop()
            # Back from the root there is nowhere to go: a way of one place has no length.
            count = count + way_length(web, tuple([here] + trail[-1:]))
            continue
        trail.append(place)
        seen.append(place)
        count = count + way_length(web, (here, place))
        if q * count > (p + q) * fars[place]:
            put.append(place)
            count = fars[place]
    return tuple(put)


def ties_in_piece(web, forest, root):
    piece = piece_of(web, whole(web), root)
    return tuple([tie for tie in forest if web[1][tie][0] in piece])


def near_light(web, root, p, q):
    forest = least_forest(web)
    put = put_in(web, forest, root, p, q)
    bought = ties_of_ways(web, [the_way(web, whole(web), root, place) for place in put])
    return (tuple(sorted(set(ties_in_piece(web, forest, root)) | set(bought))), put)


def light_paper(web, root, keep):
    return (web_heights(web, root), tree_from(web, keep, root), least_forest(web), forest_paper(web))


def is_near(web, root, p, q, keep, height, tree, place):
    way = led_to_root(web, keep, tree, root, place)
    return way is not None and q * way_length(web, way) <= (p + q) * height


def near_right(web, root, p, q, keep, heights, tree):
    if not heights_hold(web, whole(web), heights) or heights[root] != 0 or not is_tuple_of(tree, web[0]):
        return False
    led = [place for place in range(web[0]) if not out_of_reach(heights[place])]
    return all([is_near(web, root, p, q, keep, heights[place], tree, place) for place in led])


def light_right(web, root, p, q, keep, paper):
    if not is_tuple_of(paper, 4):
        return False
    heights, tree, forest, ways = paper
    if not near_right(web, root, p, q, keep, heights, tree) or not forest_right(web, (forest, ways)):
        return False
    least = kept_length(web, ties_in_piece(web, forest, root))
    return p * kept_length(web, keep) <= (p + 2 * q) * least
