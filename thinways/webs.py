"""Webs, (n, ties), and keeps of them, rising tuples of numbers of ties."""

from thinways.errors import NoWeb
from thinways.kinds import is_rising, is_whole, is_wholes


def is_size(thing):
    return is_whole(thing) and 1 <= thing <= 24


def is_length(thing):
    return is_whole(thing) and 1 <= thing <= 10 ** 18


def is_place(web, thing):
    return is_whole(thing) and 0 <= thing < web[0]


def is_tie_number(web, thing):
    return is_whole(thing) and 0 <= thing < len(web[1])


def is_triple(thing):
    return is_wholes(thing) and len(thing) == 3


def is_tie(n, thing):
    return is_triple(thing) and 0 <= thing[0] < thing[1] < n and is_length(thing[2])


def is_web(thing):
    if not isinstance(thing, tuple) or len(thing) != 2:
        return False
    n, ties = thing
    if not is_size(n) or not isinstance(ties, tuple) or len(ties) > 60:
        return False
    if not all([is_tie(n, tie) for tie in ties]):
        return False
    # Ends that rise by themselves leave no room for one tie twice with two lengths.
    return is_rising([tie[:2] for tie in ties])


def turned(tie):
    if not is_triple(tie):
        raise NoWeb("a tie is a tuple of two places and a length")
    a, b, length = tie
    return (min(a, b), max(a, b), length)


def made_web(n, ties):
    if not is_size(n):
        raise NoWeb("a web has from 1 to 24 places")
    if not isinstance(ties, (list, tuple)):
        raise NoWeb("ties are a list or a tuple")
    web = (n, tuple(sorted([turned(tie) for tie in ties])))
    if not is_web(web):
        raise NoWeb("ties are at most sixty, between unlike places of the web, none twice, from 1 to 10 ** 18 long")
    return web


def is_plain(web):
    return all([tie[2] == 1 for tie in web[1]])


def is_keep(web, thing):
    return isinstance(thing, tuple) and all([is_tie_number(web, part) for part in thing]) and is_rising(thing)


def whole(web):
    return tuple(range(len(web[1])))


def tie_between(web, a, b):
    ends = (min(a, b), max(a, b))
    for number, tie in enumerate(web[1]):
        if tie[:2] == ends:
            return number
    return None


def order_of(web):
    return tuple(sorted(whole(web), key=lambda tie: (web[1][tie][2], tie)))


def kept_length(web, keep):
    return sum([web[1][tie][2] for tie in keep])
