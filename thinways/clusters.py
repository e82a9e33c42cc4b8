"""Clusters of levels: for each place those in whose bunch it is, and the keep of their trees, with its judge."""

from thinways.kinds import is_rising, is_tuple_of, is_whole
from thinways.levels import bunch
from thinways.posts import tree_ties
from thinways.times import need_times, not_kept
from thinways.ways import led_to_root, tree_from, way_length
from thinways.webs import is_place, whole


# For each place how far it is from those of its bunch; it is in the clusters of just these.
def bunches_of(web, levels):
    return [dict(bunch(web, levels, v)) for v in range(web[0])]


def cluster_tree(web, bunches, w):
    tree = tree_from(web, whole(web), w)
    return tuple([ahead if w in bunches[v] else None for v, ahead in enumerate(tree)])


def cluster_trees(web, bunches):
    return tuple([(w, cluster_tree(web, bunches, w)) for w in range(web[0])])


# With a place all those on the way to it are in the cluster: so the ties to the places ahead are all ties.
def ties_of_trees(web, trees):
    ties = []
    for root, tree in trees:
        ties.extend(tree_ties(web, tree))
    return tuple(sorted(set(ties)))


def level_keep(web, levels):
    return ties_of_trees(web, cluster_trees(web, bunches_of(web, levels)))


def best_side(web, bunches, tie):
    a, b, length = web[1][tie]
    return min([(bunches[a][w] + bunches[b][w], w) for w in bunches[a] if w in bunches[b]])[1]


def level_paper(web, levels):
    bunches = bunches_of(web, levels)
    trees = cluster_trees(web, bunches)
    ties = not_kept(web, ties_of_trees(web, trees))
    return (trees, tuple([best_side(web, bunches, tie) for tie in ties]))


def is_rooted(web, pair):
    if not is_tuple_of(pair, 2) or not is_place(web, pair[0]) or not is_tuple_of(pair[1], web[0]):
        return False
    root, tree = pair
    return tree[root] is None and all([ahead is None or is_place(web, ahead) for ahead in tree])


def side_right(web, keep, t, trees, tie, side):
    if not is_whole(side) or side not in trees:
        return False
    a, b, length = web[1][tie]
    one = led_to_root(web, keep, trees[side], side, a)
    other = led_to_root(web, keep, trees[side], side, b)
    if one is None or other is None:
        return False
    return way_length(web, one) + way_length(web, other) <= t * length


def trees_right(web, keep, t, paper):
    need_times(t)
    if not is_tuple_of(paper, 2):
        return False
    trees, sides = paper
    if not isinstance(trees, tuple) or not all([is_rooted(web, pair) for pair in trees]):
        return False
    ties = not_kept(web, keep)
    if not is_rising([root for root, tree in trees]) or not is_tuple_of(sides, len(ties)):
        return False
    return all([side_right(web, keep, t, dict(trees), tie, side) for tie, side in zip(ties, sides)])
