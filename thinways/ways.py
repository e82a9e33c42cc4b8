"""Ways in a keep: the shortest one of all, how far places are, and the pieces that hang together."""

from thinways.webs import is_place, tie_between


def are_unlike_places(web, thing):
    if not isinstance(thing, tuple) or not all([is_place(web, part) for part in thing]):
        return False
    return len(set(thing)) == len(thing)


def ties_along(web, places):
    return [tie_between(web, one, other) for one, other in zip(places, places[1:])]


def way_right(web, keep, way):
    if not are_unlike_places(web, way) or len(way) == 0:
        return False
    return all([tie in keep for tie in ties_along(web, way)])


def leads_between(web, keep, a, b, way):
    return way_right(web, keep, way) and way[0] == a and way[-1] == b


def way_length(web, way):
    return sum([web[1][tie][2] for tie in ties_along(web, way)])


# Each tie weighs more than all those of lesser numbers together. So of two sets of ties
# that one weighs less that lacks the greatest number that stands in just one of them.
def tie_weights(web):
    weights = []
    weight = 1
    for tie in web[1]:
        weights.append(weight)
        weight = 2 * weight
    return weights


# No two ways between the same places have the same ties, so no two cost the same.
def cost_with(cost, length, weight):
    return (cost[0] + length, cost[1] + weight)


def cost_along(web, places):
    weights = tie_weights(web)
    cost = (0, 0)
    for tie in ties_along(web, places):
        cost = cost_with(cost, web[1][tie][2], weights[tie])
    return cost


# For each place the cost (length, weight) of the way from the root, and the place ahead of it there.
def reached_from(web, keep, root):
    weights = tie_weights(web)
    costs = [None] * web[0]
    ahead = [None] * web[0]
    costs[root] = (0, 0)
    again = True
    while again:
        again = False
        for tie in keep:
            a, b, length = web[1][tie]
            for one, other in ((a, b), (b, a)):
                if costs[one] is None:
                    continue
                cost = cost_with(costs[one], length, weights[tie])
                if costs[other] is None or cost < costs[other]:
                    costs[other] = cost
                    ahead[other] = one
                    again = True
    return (costs, ahead)


def fars_from(web, keep, root):
    costs, ahead = reached_from(web, keep, root)
    return [None if cost is None else cost[0] for cost in costs]


def far(web, keep, a, b):
    return fars_from(web, keep, a)[b]


def tree_from(web, keep, root):
    costs, ahead = reached_from(web, keep, root)
    return tuple(ahead)


def the_way(web, keep, a, b):
    # From b back to a, so that the places ahead come in the order in which the way is told.
    tree = tree_from(web, keep, b)
    way = [a]
    while way[-1] != b:
        if tree[way[-1]] is None:
            return None
        way.append(tree[way[-1]])
    return tuple(way)


def piece_of(web, keep, place):
    return tuple([other for other, length in enumerate(fars_from(web, keep, place)) if length is not None])


def pieces(web, keep):
    parts = [piece_of(web, keep, place) for place in range(web[0])]
    # Each piece is met once from each of its places and told by its least one alone.
    return tuple([part for place, part in enumerate(parts) if part[0] == place])


# The places that one comes along, by the places ahead in the tree, till one is at the root; None where one never is.
def led_to_root(web, keep, tree, root, place):
    way = [place]
    while way[-1] != root:
        ahead = tree[way[-1]]
        # Where one was already one would come again and again.
        if not is_place(web, ahead) or ahead in way or tie_between(web, way[-1], ahead) not in keep:
            return None
        way.append(ahead)
    return tuple(way)
