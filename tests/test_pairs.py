import unittest
from itertools import combinations

from tests.helper import (
    ODD_TUPLES, Draw, all_whole, altered, by_one, drawn_webs, full_web, great_plain_webs, great_webs, ring_web,
    roofed, slow_fars, slow_hold, slow_length, slow_ties, slow_way, ways_between,
)
from thinways.pairs import pairs_right, pairs_told, partings
from thinways.ways import the_way
from thinways.webs import is_keep, made_web, whole

ROOF = 10 ** 20
# Two pieces: a ring 0-1-2-3 with one long tie, and 4-5.
PARTED = made_web(6, [(0, 1, 2), (1, 2, 2), (2, 3, 2), (0, 3, 5), (4, 5, 7)])


def drawn_pairs(draw, n, many):
    left = list(combinations(range(n), 2))
    told = []
    while left and len(told) < many:
        told.append(left.pop(draw.below(len(left))))
    return tuple(sorted(told))


def pairs_of(web, seed):
    """None, one, some and all, at most thirty."""
    every = tuple(combinations(range(web[0]), 2))[:30]
    return [(), every[-1:], drawn_pairs(Draw(seed), web[0], 3), every]


def ties_of(web, ways):
    return tuple(sorted(set().union(*[slow_ties(web, way) for way in ways if way is not None])))


def slow_pair_right(web, keep, pair, way, heights):
    a, b = pair
    if not slow_hold(web, whole(web), heights):
        return False
    if way is None:
        return heights[b] - heights[a] >= ROOF
    return way in ways_between(web, keep, a, b) and heights[b] - heights[a] == slow_length(web, way)


def slow_pairs_right(web, pairs, told):
    if len(told) != 3 or not is_keep(web, told[0]) or not len(told[1]) == len(told[2]) == len(pairs):
        return False
    keep, ways, papers = told
    if not all(slow_pair_right(web, keep, *row) for row in zip(pairs, ways, papers)):
        return False
    return keep == ties_of(web, ways)


def slow_partings(ways):
    """The stretch gone along step by step: where the i-th way comes into the other and where it leaves it."""
    told = []
    for i, j in combinations(range(len(ways)), 2):
        if ways[i] is None or ways[j] is None:
            continue
        on = [place in ways[j] for place in ways[i]]
        if any(on):
            first = on.index(True)
            last = len(on) - 1 - on[::-1].index(True)
            told.extend([(i, j, ways[i][first]), (i, j, ways[i][last])])
    return tuple(sorted(told))


class ToldTest(unittest.TestCase):
    def test_of_none_and_of_one(self):
        self.assertEqual(pairs_told(PARTED, ()), ((), (), ()))
        self.assertEqual(pairs_told((1, ()), ()), ((), (), ()))
        # Ties 0: 0-1, 1: 0-3, 2: 1-2, 3: 2-3, 4: 4-5.
        self.assertEqual(pairs_told(PARTED, ((0, 2),)), ((0, 2), ((0, 1, 2),), ((0, 2, 4, 5, ROOF, ROOF),)))

    def test_where_no_way_leads(self):
        told = ((4,), (None, (4, 5)), ((2, 0, 2, 4, ROOF, ROOF), (ROOF, ROOF, ROOF, ROOF, 0, 7)))
        self.assertEqual(pairs_told(PARTED, ((1, 5), (4, 5))), told)
        self.assertIs(pairs_right(PARTED, ((1, 5), (4, 5)), told), True)
        self.assertEqual(pairs_told((2, ()), ((0, 1),)), ((), (None,), ((0, ROOF),)))

    def test_against_all_ways(self):
        for seed, web in enumerate(drawn_webs(48)):
            fars = slow_fars(web, whole(web))
            for pairs in pairs_of(web, seed):
                told = pairs_told(web, pairs)
                self.assertTrue(all_whole(told))
                keep, ways, heights = told
                self.assertEqual(ways, tuple(slow_way(web, whole(web), a, b) for a, b in pairs))
                self.assertEqual(heights, tuple(roofed(fars[a], ROOF) for a, b in pairs))
                self.assertEqual(keep, ties_of(web, ways))
                self.assertIs(pairs_right(web, pairs, told), True)

    def test_thirty_pairs_of_great_webs(self):
        for seed, web in enumerate(great_webs() + great_plain_webs()):
            pairs = drawn_pairs(Draw(seed), web[0], 30)
            self.assertEqual(len(pairs), 30)
            fars = slow_fars(web, whole(web))
            keep, ways, heights = pairs_told(web, pairs)
            for (a, b), way, row in zip(pairs, ways, heights):
                self.assertEqual(way, the_way(web, whole(web), a, b))
                self.assertEqual(None if way is None else slow_length(web, way), fars[a][b])
                self.assertEqual(row, roofed(fars[a], ROOF))
            self.assertEqual(keep, ties_of(web, ways))
            self.assertIs(pairs_right(web, pairs, (keep, ways, heights)), True)


class RightTest(unittest.TestCase):
    def test_other_ways_as_short_will_do(self):
        # Ties 0: 0-1, 1: 0-3, 2: 1-2, 3: 2-3, all of 1: from 0 to 2 by 1 or by 3.
        web = ring_web(4)
        pairs = ((0, 2),)
        heights = ((0, 1, 2, 1),)
        self.assertEqual(pairs_told(web, pairs), ((0, 2), ((0, 1, 2),), heights))
        self.assertIs(pairs_right(web, pairs, ((1, 3), ((0, 3, 2),), heights)), True)
        self.assertIs(pairs_right(web, pairs, ((0, 2), ((0, 3, 2),), heights)), False)
        self.assertIs(pairs_right(web, pairs, ((1, 3), ((2, 3, 0),), heights)), False)
        self.assertIs(pairs_right(web, pairs, ((1, 3), ((0, 3, 2),), ((-5, -4, -3, -4),))), True)

    def test_a_kept_tie_too_many_or_too_few(self):
        web = full_web(4)
        pairs = ((0, 1), (0, 3))
        keep, ways, heights = pairs_told(web, pairs)
        self.assertEqual(keep, (0, 2))
        for other in ((), (0,), (2,), (0, 1, 2), (0, 2, 5), (0, 1, 2, 3, 4, 5), (2, 0), (0, 0, 2), (0, 2, 6), (-1, 2),
                      (0, True), (False, 2)):
            self.assertIs(pairs_right(web, pairs, (other, ways, heights)), False, other)
        self.assertIs(pairs_right(web, pairs, (keep, ways, heights)), True)

    def test_longer_ways_and_lower_heights(self):
        # By 2 from 0 to 1 it is as long as the heights say, but they don't hold in the web.
        web = full_web(3)
        self.assertIs(pairs_right(web, ((0, 1),), ((1, 2), ((0, 2, 1),), ((0, 2, 1),))), False)
        self.assertIs(pairs_right(web, ((0, 1),), ((1, 2), ((0, 2, 1),), ((0, 1, 1),))), False)
        self.assertIs(pairs_right(web, ((0, 1),), ((0,), ((0, 1),), ((0, 0, 0),))), False)
        self.assertIs(pairs_right(web, ((0, 1),), ((0,), ((0, 1),), ((1, 0, 1),))), False)
        self.assertIs(pairs_right(web, ((0, 1),), ((0,), ((0, 1),), ((0, 1, 1),))), True)

    def test_none_for_a_way_and_the_other_way_about(self):
        pairs = ((0, 2), (1, 5))
        keep, ways, heights = pairs_told(PARTED, pairs)
        self.assertEqual(ways, ((0, 1, 2), None))
        self.assertIs(pairs_right(PARTED, pairs, (keep, ways, heights)), True)
        for other in ((None, None), ((0, 1, 2), (1, 5)), ((0, 1, 2), ()), (None, (0, 1, 2)), ((0, 1, 2), (5,))):
            for kept in (keep, ()):
                self.assertIs(pairs_right(PARTED, pairs, (kept, other, heights)), False)
        # 10 ** 20 or more above, in whatever heights hold.
        for low, high, asked in ((0, ROOF, True), (0, ROOF - 1, False), (-3, ROOF - 3, True), (0, 10 ** 59, True),
                                 (5, ROOF + 4, False), (ROOF, 0, False)):
            row = (low,) * 4 + (high,) * 2
            self.assertIs(pairs_right(PARTED, pairs[1:], ((), (None,), (row,))), asked)

    def test_one_thing_otherwise_at_each_place(self):
        lets = {True: 0, False: 0}
        for seed, web in enumerate(drawn_webs(24, 5) + [PARTED]):
            for pairs in (drawn_pairs(Draw(seed), web[0], 1), drawn_pairs(Draw(seed + 9), web[0], 4)):
                for told in altered(pairs_told(web, pairs), ((), (0,), (0, 1))):
                    right = pairs_right(web, pairs, told)
                    self.assertIs(right, slow_pairs_right(web, pairs, told), (web, pairs, told))
                    lets[right] += 1
        self.assertGreater(lets[True], 50)
        self.assertGreater(lets[False], 1000)

    def test_whatever_tuples(self):
        for seed, web in enumerate(drawn_webs(12)):
            for pairs in pairs_of(web, seed)[:3]:
                keep, ways, heights = pairs_told(web, pairs)
                many = len(pairs)
                papers = [(), ((),), ((), ()), ((), (), ()), ((), (), (), ()), (keep, (None,) * many, heights)]
                for odd in ODD_TUPLES:
                    papers.extend([(odd, ways, heights), (keep, (odd,) * many, heights), (keep, ways, (odd,) * many)])
                    papers.extend([(keep, (odd,) * 400, heights), (odd, (odd,) * many, (odd,) * many)])
                for paper in papers:
                    self.assertIs(pairs_right(web, pairs, paper), slow_pairs_right(web, pairs, paper), paper)


class PartingsTest(unittest.TestCase):
    def test_two_of_each_two_that_share_something(self):
        self.assertEqual(partings(()), ())
        self.assertEqual(partings(((0, 1, 2),)), ())
        self.assertEqual(partings(((0, 1), (2, 3))), ())
        self.assertEqual(partings(((0, 1, 2, 3), (1, 2, 4))), ((0, 1, 1), (0, 1, 2)))

    def test_alike_where_it_is_one_place(self):
        self.assertEqual(partings(((0, 2, 1), (3, 2, 4))), ((0, 1, 2), (0, 1, 2)))
        self.assertEqual(partings(((0, 1), (1, 2))), ((0, 1, 1), (0, 1, 1)))

    def test_as_the_first_of_both_goes_and_sorted(self):
        # The other goes along the stretch 5-6-7 the other way; the last place is the lesser one.
        self.assertEqual(partings(((0, 7, 6, 5, 9), (1, 5, 6, 7, 8))), ((0, 1, 5), (0, 1, 7)))
        self.assertEqual(partings(((0, 4, 1), (2, 4, 3), (1, 4, 2))), ((0, 1, 4),) * 2 + ((0, 2, 1), (0, 2, 4))
                         + ((1, 2, 2), (1, 2, 4)))

    def test_none_shares_nothing_but_has_its_number(self):
        self.assertEqual(partings((None,)), ())
        self.assertEqual(partings((None, None)), ())
        self.assertEqual(partings((None, (0, 1), None, (1, 2))), ((1, 3, 1), (1, 3, 1)))

    def check(self, web, pairs):
        keep, ways, heights = pairs_told(web, pairs)
        told = partings(ways)
        self.assertEqual(told, slow_partings(ways))
        self.assertTrue(all_whole(told))
        for place in range(web[0]):
            kept = sum(1 for tie in keep if place in web[1][tie][:2])
            self.assertGreaterEqual(sum(1 for parting in told if parting[2] == place), kept - 2)
        many = len(pairs)
        self.assertLessEqual(len(told), many * (many - 1))
        self.assertLessEqual(2 * len(keep), 2 * web[0] + many * (many - 1))

    def test_against_all_pairs_of_ways(self):
        for seed, web in enumerate(drawn_webs(48, 8)):
            for pairs in pairs_of(web, seed) + pairs_of(by_one(web), seed + 5):
                self.check(web, pairs)

    def test_great_webs(self):
        for seed, web in enumerate(great_webs() + great_plain_webs()):
            for many in (1, 2, 5, 12, 30):
                self.check(web, drawn_pairs(Draw(seed + many), web[0], many))


class OwnTest(unittest.TestCase):
    def test_the_same_question_has_the_same_answer(self):
        pairs = ((0, 2), (0, 3), (1, 5))
        for web in (PARTED, ring_web(8), great_webs()[0]):
            first = pairs_told(web, pairs)
            self.assertEqual(pairs_told(web, pairs), first)
            self.assertEqual(partings(first[1]), partings(first[1]))
            self.assertEqual(pairs, ((0, 2), (0, 3), (1, 5)))


if __name__ == "__main__":
    unittest.main()
