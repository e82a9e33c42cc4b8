"""How few ties a keep has: its places go one by one, or a ring of few ties stands against it."""

from thinways.kinds import is_told
from thinways.rings import least_ring, neighbours, ring_right
from thinways.ways import are_unlike_places


def ties_among(web, keep, place, others):
    return len([other for other in neighbours(web, keep, place) if other in others])


def first_to_go(web, keep, d, left):
    for place in left:
        if ties_among(web, keep, place, left) <= d:
            return place
    return None


def peeled(web, keep, d):
    order = []
    left = list(range(web[0]))
    place = first_to_go(web, keep, d, left)
    while place is not None:
        order.append(place)
        left.remove(place)
        place = first_to_go(web, keep, d, left)
    return (tuple(order), tuple(left))


# So many places lie within k steps of one, where no ring is short and each place has more than d ties.
def spread(d, k):
    places = 1
    front = d + 1
    for step in range(k):
        places = places + front
        front = front * d
    return places


def share_of(n, k):
    d = 0
    while spread(d, k) <= n:
        d = d + 1
    return d


def few_told(web, keep, k):
    order, core = peeled(web, keep, share_of(web[0], k))
    if core == ():
        return ("few", order)
    return ("ring", least_ring(web, keep))


def peels(web, keep, d, order):
    if not are_unlike_places(web, order) or len(order) != web[0]:
        return False
    return all([ties_among(web, keep, place, order[turn + 1:]) <= d for turn, place in enumerate(order)])


def few_right(web, keep, k, told):
    if is_told(told, "few", 2):
        return peels(web, keep, share_of(web[0], k), told[1])
    if is_told(told, "ring", 2):
        return ring_right(web, keep, told[1]) and len(told[1]) <= 2 * k
    return False
