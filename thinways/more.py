"""Keeps of plain webs in which no two places are more than so many ties further from one another."""

from thinways.errors import NoPlain
from thinways.heights import heights_from, heights_hold
from thinways.kinds import is_tuple_of
from thinways.ways import fars_from, led_to_root, tree_from
from thinways.webs import is_plain, whole


def need_plain(web):
    if not is_plain(web):
        raise NoPlain("all ties of a plain web have the length 1")


def least_more(web, keep):
    need_plain(web)
    most = (0, 0, 0)
    for u in range(web[0]):
        near = fars_from(web, whole(web), u)
        kept = fars_from(web, keep, u)
        for v in range(u + 1, web[0]):
            if near[v] is not None and kept[v] is None:
                return None
            if near[v] is not None and kept[v] - near[v] > most[0]:
                most = (kept[v] - near[v], u, v)
    return most


def more_paper(web, keep):
    need_plain(web)
    papers = []
    for u in range(web[0]):
        papers.append((heights_from(web, whole(web), u, web[0]), tree_from(web, keep, u)))
    return tuple(papers)


def is_led(web, keep, m, u, heights, tree, place):
    way = led_to_root(web, keep, tree, u, place)
    return way is not None and len(way) - 1 <= heights[place] + m


def place_right(web, keep, m, u, heights, tree):
    if not heights_hold(web, whole(web), heights) or heights[u] != 0 or not is_tuple_of(tree, web[0]):
        return False
    low = [place for place in range(web[0]) if heights[place] < web[0]]
    return all([is_led(web, keep, m, u, heights, tree, place) for place in low])


def more_right(web, keep, m, paper):
    need_plain(web)
    if not is_tuple_of(paper, web[0]) or not all([is_tuple_of(pair, 2) for pair in paper]):
        return False
    return all([place_right(web, keep, m, u, pair[0], pair[1]) for u, pair in enumerate(paper)])
