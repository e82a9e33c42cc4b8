"""What the tests share: webs to ask about, and slow answers made without the program's own reckoning."""

from itertools import combinations, permutations

from thinways.errors import NoFalls, NoTimes, ThinError, TooMany
from thinways.forest import least_forest
from thinways.webs import made_web

# Of every kind but numbers with a point.
ANYTHING = (
    None, True, False, 0, -1, 7, 10 ** 59, "", "3", "web", (), (0,), (1, 2), [], [1], {}, {1: 2}, {1, 2}, frozenset(),
    b"ab", object(), int, len, range(3), ((((),),),), ("way", (0, 1)), (None,), ("a", "b", "c"), [[]], 3j,
)

NO_TIMES = tuple(thing for thing in ANYTHING if thing != 7) + (
    100, -1, -99, 10 ** 59, -10 ** 59, (3,), [3], {3: 3}, "1", "99",
)

# Tuples of whole numbers as judges have to bear them.
ODD_TUPLES = (
    (), (0,), (-1,), (24,), (0, 0), (0, -1), (1, 0, 1), (0, 1, 2, 3), (10 ** 59, -10 ** 59), (-10 ** 59,),
    tuple(range(30)), tuple(range(-30, 0)), (5,) * 24, (10 ** 59,) * 400,
)


class Draw:
    """Numbers that look drawn but are the same each time."""

    def __init__(self, seed):
        self.state = seed * 2654435761 + 12345

    def below(self, bound):
        self.state = (self.state * 6364136223846793005 + 1442695040888963407) % 2 ** 64
        return (self.state >> 33) % bound


def drawn_web(draw, n, many, longest):
    ends = list(combinations(range(n), 2))
    ties = []
    while ends and len(ties) < many:
        a, b = ends.pop(draw.below(len(ends)))
        ties.append((a, b, 1 + draw.below(longest)))
    return made_web(n, ties)


def drawn_keep(draw, web):
    return tuple(tie for tie in range(len(web[1])) if draw.below(4) > 0)


def drawn_webs(count, most=6):
    """Small webs, many of them with many ways that are as short."""
    told = []
    for seed in range(count):
        draw = Draw(seed)
        n = 1 + draw.below(most)
        told.append(drawn_web(draw, n, draw.below(n * (n - 1) // 2 + 1), (1, 2, 4, 50)[seed % 4]))
    return told


def webs_and_keeps(count, most=6):
    told = []
    for seed, web in enumerate(drawn_webs(count, most)):
        told.append((web, tuple(range(len(web[1])))))
        told.append((web, drawn_keep(Draw(seed + 1000), web)))
    return told


def full_web(n, length=1):
    return made_web(n, [(a, b, length) for a, b in combinations(range(n), 2)])


def ring_web(n, length=1):
    return made_web(n, [(i, (i + 1) % n, length) for i in range(n)])


def great_webs():
    """Webs at the bounds: 24 places, sixty ties, lengths near 10 ** 18."""
    draw = Draw(77)
    top = 10 ** 18
    chords = [(i, (i + step) % 24, top - draw.below(5)) for i in range(24) for step in (1, 5)]
    chords = chords + [(i, i + 12, top) for i in range(12)]
    ladder = [(i, i + 12, top) for i in range(12)] + [(i, i + 1, top) for i in range(23) if i != 11]
    dense = [(a, b, top - a * b) for a, b in list(combinations(range(12), 2))[:60]]
    spread = drawn_web(Draw(5), 24, 60, 10 ** 18)
    return [made_web(24, chords), made_web(24, ladder), made_web(24, dense), spread, drawn_web(Draw(6), 24, 60, 1)]


def tied(web, keep):
    """For each two places with a kept tie, either way round, (number, length)."""
    told = {}
    for number in keep:
        a, b, length = web[1][number]
        told[(a, b)] = (number, length)
        told[(b, a)] = (number, length)
    return told


def ways_between(web, keep, a, b):
    links = tied(web, keep)
    told = []

    def go(way):
        if way[-1] == b:
            told.append(way)
            return
        for place in range(web[0]):
            if place not in way and (way[-1], place) in links:
                go(way + (place,))

    go((a,))
    return told


def slow_length(web, way):
    links = tied(web, range(len(web[1])))
    return sum(links[step][1] for step in zip(way, way[1:]))


def slow_ties(web, way):
    links = tied(web, range(len(web[1])))
    return {links[step][0] for step in zip(way, way[1:])}


def comes_first(one, other):
    """Of two unlike sets of numbers, as the document words it."""
    greatest = max(one ^ other)
    return greatest not in one


def slow_first(web, ways):
    """The shortest, of several the one whose ties come first, gone through one by one; None of none."""
    best = None
    for way in ways:
        if best is None or slow_length(web, way) < slow_length(web, best):
            best = way
        elif slow_length(web, way) == slow_length(web, best):
            if comes_first(slow_ties(web, way), slow_ties(web, best)):
                best = way
    return best


def slow_way(web, keep, a, b):
    return slow_first(web, ways_between(web, keep, a, b))


def slow_far(web, keep, a, b):
    """Distances by going through all middle places, which bears great webs too."""
    return slow_fars(web, keep)[a][b]


def slow_fars(web, keep):
    n = web[0]
    fars = [[0 if a == b else None for b in range(n)] for a in range(n)]
    for a, b, length in [web[1][tie] for tie in keep]:
        fars[a][b] = fars[b][a] = length
    for mid in range(n):
        for a in range(n):
            for b in range(n):
                if fars[a][mid] is not None and fars[mid][b] is not None:
                    through = fars[a][mid] + fars[mid][b]
                    if fars[a][b] is None or through < fars[a][b]:
                        fars[a][b] = through
    return fars


def slow_rings(web, keep):
    links = tied(web, keep)
    told = []
    for size in range(3, web[0] + 1):
        for places in combinations(range(web[0]), size):
            for rest in permutations(places[1:]):
                ring = (places[0],) + rest
                steps = list(zip(ring, ring[1:] + ring[:1]))
                if rest[0] < rest[-1] and all(step in links for step in steps):
                    told.append(ring)
    return told


OTHER_WORDS = {
    "keeps": ("far",), "far": ("keeps", "tie"), "way": ("heights",), "heights": ("way",), "few": ("ring",),
    "ring": ("few",), "kept": ("far", "tie"), "tie": ("kept", "far"), "bears": ("breaks",), "breaks": ("bears",),
    "ways": ("falls",), "falls": ("ways",), "round": ("apart",), "apart": ("round",),
}


def altered(thing, for_none=(), for_number=()):
    """The thing with one thing otherwise, at each place, however deep: changed, left out, twice, exchanged."""
    if isinstance(thing, str):
        yield from OTHER_WORDS[thing]
    elif thing is None:
        yield from for_none
    elif isinstance(thing, int):
        yield from (thing - 1, thing + 1, 10 ** 59, -10 ** 59) + for_number
    else:
        for place, part in enumerate(thing):
            for other in altered(part, for_none, for_number):
                yield thing[:place] + (other,) + thing[place + 1:]
            yield thing[:place] + thing[place + 1:]
            yield thing[:place + 1] + thing[place:]
            if place + 1 < len(thing) and part != thing[place + 1]:
                yield thing[:place] + (thing[place + 1], part) + thing[place + 2:]


def is_number(thing):
    return isinstance(thing, int) and not isinstance(thing, bool)


def slow_hold(web, keep, heights):
    if not isinstance(heights, tuple) or len(heights) != web[0] or not all(is_number(height) for height in heights):
        return False
    return all(abs(heights[a] - heights[b]) <= length for a, b, length in [web[1][tie] for tie in keep])


def slow_beyond(web, keep, tie, t, heights):
    a, b, length = web[1][tie]
    return slow_hold(web, keep, heights) and abs(heights[a] - heights[b]) > t * length


def slow_within(web, keep, tie, t, way):
    a, b, length = web[1][tie]
    links = tied(web, keep)
    if not isinstance(way, tuple) or way[:1] != (a,) or way[-1:] != (b,) or len(set(way)) < len(way):
        return False
    if any(step not in links for step in zip(way, way[1:])):
        return False
    return slow_length(web, way) <= t * length


def slow_of_times(web, keep, t):
    """For every two places, not for ties alone."""
    fars = slow_fars(web, keep)
    for a, row in enumerate(slow_fars(web, range(len(web[1])))):
        for b, length in enumerate(row):
            if length is not None and (fars[a][b] is None or fars[a][b] > t * length):
                return False
    return True


def slow_led(web, keep, tree, root, place):
    """How long the way to the root is, by the places ahead; None where one doesn't come there."""
    links = tied(web, keep)
    gone = [place]
    while gone[-1] != root:
        ahead = tree[gone[-1]]
        if not is_number(ahead) or (gone[-1], ahead) not in links or ahead in gone:
            return None
        gone.append(ahead)
    return sum(links[step][1] for step in zip(gone, gone[1:]))


def slow_rule(web, order, t):
    """The keep of the rule of rings, by distances alone."""
    kept = []
    for tie in order:
        a, b, length = web[1][tie]
        far = slow_fars(web, kept)[a][b]
        if far is None or far > t * length:
            kept.append(tie)
    return tuple(sorted(kept))


def slow_order(web):
    return sorted(range(len(web[1])), key=lambda tie: (web[1][tie][2], tie))


def forest_there(web, root):
    """The least forest's ties that hang together with the root."""
    row = slow_fars(web, range(len(web[1])))[root]
    return tuple(tie for tie in least_forest(web) if row[web[1][tie][0]] is not None)


def slow_pieces(web, keep):
    """How many pieces there are, by marks that spread along the kept ties."""
    marks = list(range(web[0]))
    for a, b, length in [web[1][tie] for tie in keep] * web[0]:
        marks[a] = marks[b] = min(marks[a], marks[b])
    return len(set(marks))


def outside(web, keep):
    return tuple(tie for tie in range(len(web[1])) if tie not in keep)


def all_keeps(web):
    ties = range(len(web[1]))
    return [keep for many in range(len(web[1]) + 1) for keep in combinations(ties, many)]


def plain_webs(count, most=6):
    return [by_one(web) for web in drawn_webs(count, most)]


def great_plain_webs():
    """Plain webs at the bounds: 24 places, sixty ties, and long rings and rows."""
    row = made_web(24, [(i, i + 1, 1) for i in range(23)])
    return [by_one(web) for web in great_webs()] + [ring_web(24), row, full_web(11)]


def neighbours_of(web, place):
    links = tied(web, range(len(web[1])))
    return [other for other in range(web[0]) if (place, other) in links]


# One tie longer than 1, and what has no plain length at all.
NOT_PLAIN = (
    (3, ((0, 1, 1), (1, 2, 2))), (2, ((0, 1, 10 ** 18),)), (4, ((0, 1, 7), (0, 2, 1), (2, 3, 1))), full_web(11, 5),
)
NO_SHARES = tuple(thing for thing in ANYTHING if thing not in (7, 10 ** 59)) + (
    0, -1, -10 ** 59, True, False, None, "1", "", (1,), [1], {}, {1: 1}, {1},
)


def drawn_places(draw, n):
    return tuple(place for place in range(n) if draw.below(3) == 0)


def drawn_levels(draw, n, many):
    """Each level some of the one ahead, now and then none."""
    levels = [tuple(range(n))]
    while len(levels) < many:
        bound = 2 + draw.below(3)
        levels.append(tuple(place for place in levels[-1] if draw.below(bound) > 0))
    return tuple(levels)


def levels_of(web, seed):
    """Levels of one to six, drawn ones, all alike, and empty ones at the end."""
    n = web[0]
    every = tuple(range(n))
    told = [drawn_levels(Draw(seed * 7 + many), n, many) for many in range(1, 7)]
    return told + [(every,) * (1 + seed % 6), (every, ()), (every, every[:1], (), ()), (every, every[::2], every[::4])]


def no_levels(n):
    """What is no levels of n places, three at least."""
    every = tuple(range(n))
    return ANYTHING + (
        (), (every,) * 7, ((),), ((), every), ((), ()), every, [every], (list(every),), (every, [0]),
        (every, [0], (0,)), [every, (0,)], (every, list(every)), (every[::-1],), (every, (1, 0)), (every, (0, 0)),
        (every, (0, 1, 1)), (every + every[-1:],), (every, (0, 1), (2,)), (every, (0,), (0, 1)), (every, (), (0,)),
        (every, (-1,)), (every, (-1, 0)), (every, (n,)), (every, (0, n)), (every, (10 ** 59,)), (every, (-10 ** 59,)),
        (every, (True,)), (every, (False,)), (every, (0, True)), ((False,) + every[1:],), (every, (None,)),
        (every, None), (None, every), (every, ("0",)), (every, "0"), (every, ""), ("", every), (every, ((0,),)),
        (every[:-1],), (every[1:],), (every + (n,),), ((-1,) + every,), (every[:-1], every[:-1]), (every, 0),
        (every, {0: 0}), (every, {}), (every, range(1)), (range(n),), {0: every}, "012", (every, True), (every, {0}),
    )


def roofed(fars, roof):
    return tuple(roof if far is None else min(far, roof) for far in fars)


def by_one(web):
    return (web[0], tuple((a, b, 1) for a, b, length in web[1]))


def all_whole(thing):
    """Whether a thing is made of tuples and of whole numbers that are never True or False."""
    if isinstance(thing, tuple):
        return all(all_whole(part) for part in thing)
    return thing is None or isinstance(thing, str) or (isinstance(thing, int) and not isinstance(thing, bool))


NO_FALLS = tuple(thing for thing in ANYTHING if not is_number(thing) or thing not in (0, 1, 2)) + (
    3, -1, True, False, None, "1", "", (1,), [1], {}, {1: 1}, 10 ** 59, -10 ** 59,
)


def great_webs_of_twelve():
    """Webs at the bounds where falls are asked about."""
    top = 10 ** 18
    dense = made_web(12, [(a, b, top - a * b) for a, b in list(combinations(range(12), 2))[:60]])
    even = made_web(12, [(a, b, top) for a, b in list(combinations(range(12), 2))[3:63]])
    ladder = made_web(12, [(i, i + 6, top) for i in range(6)] + [(i, (i + 1) % 12, top - i) for i in range(12)])
    return [dense, even, ladder, drawn_web(Draw(8), 12, 60, top), ring_web(12, top), full_web(11, top)]


def fallen_sets(keep, f):
    return [fallen for many in range(f + 1) for fallen in combinations(keep, many)]


def stands(keep, fallen):
    return tuple(tie for tie in keep if tie not in fallen)


def ends_far(web, keep, tie, t):
    a, b, length = web[1][tie]
    far = slow_fars(web, keep)[a][b]
    return far is None or far > t * length


def breaks_at(web, keep, tie, t, f):
    return any(ends_far(web, stands(keep, fallen), tie, t) for fallen in fallen_sets(keep, f))


def slow_tree_right(web, keep, tie, t, f, fallen, tree):
    """Of what is no pair of a way and a tuple, too."""
    if not isinstance(tree, tuple) or len(tree) != 2:
        return False
    way, below = tree
    if not slow_within(web, stands(keep, fallen), tie, t, way):
        return False
    if len(fallen) == f:
        return below == ()
    links = tied(web, keep)
    ties = [links[step][0] for step in zip(way, way[1:])]
    if not isinstance(below, tuple) or len(below) != len(ties):
        return False
    return all(slow_tree_right(web, keep, tie, t, f, fallen + (other,), part) for other, part in zip(ties, below))


def slow_fall_right(web, keep, tie, t, f, fallen, heights):
    if not isinstance(fallen, tuple) or fallen not in fallen_sets(keep, f):
        return False
    return slow_beyond(web, stands(keep, fallen), tie, t, heights)


class FallRefusals:
    """The refusals where falls are asked about, in their order; `asks` tells the questions."""

    def refused(self, error, web, t, f):
        for ask in self.asks(web, t, f):
            with self.assertRaises(error) as caught:
                ask()
            self.assertIsInstance(caught.exception, ThinError)

    def test_no_times_goes_first(self):
        for t in NO_TIMES:
            for web in (full_web(4), (12, ()), (13, ()), (24, ())):
                for f in (0, 2, 3, None):
                    self.refused(NoTimes, web, t, f)

    def test_too_many_goes_ahead_of_no_falls(self):
        for n in (13, 14, 24):
            for f in (0, 1, 2) + NO_FALLS:
                self.refused(TooMany, (n, ()), 3, f)
                self.refused(TooMany, ring_web(n), 99, f)

    def test_no_falls(self):
        for f in NO_FALLS:
            self.refused(NoFalls, full_web(4), 1, f)
            self.refused(NoFalls, (12, ()), 99, f)
