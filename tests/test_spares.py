import unittest

from tests.helper import (
    ODD_TUPLES, all_whole, altered, by_one, full_web, great_webs, ring_web, slow_fars, slow_hold, slow_length,
    slow_rings, slow_way, webs_and_keeps,
)
from thinways.rings import least_ring
from thinways.spares import fewer_right, none_fewer, spare
from thinways.webs import made_web, whole


def leaving(keep, tie):
    return tuple(other for other in keep if other != tie)


def slow_fewer_right(web, keep, g, told):
    if len(told) != len(keep):
        return False
    for tie, heights in zip(keep, told):
        if not slow_hold(by_one(web), leaving(keep, tie), heights):
            return False
        a, b, length = web[1][tie]
        if abs(heights[a] - heights[b]) < g - 1:
            return False
    return True


class SpareTest(unittest.TestCase):
    def test_from_the_lesser_end(self):
        web = made_web(4, [(0, 1, 9), (1, 2, 2), (2, 3, 2), (0, 3, 2)])
        self.assertEqual(spare(web, whole(web), 0), (0, 3, 2, 1))
        self.assertEqual(spare(web, whole(web), 3), (2, 1, 0, 3))
        self.assertIsNone(spare(web, (0, 1, 2), 0))

    def test_where_several_are_as_short(self):
        # Ties 0: 0-1, 1: 0-2, 2: 0-3, 3: 1-2, 4: 1-3: without 0 by (1, 3) or by (2, 4).
        web = made_web(4, [(0, 1, 1), (0, 2, 1), (0, 3, 1), (1, 2, 1), (1, 3, 1)])
        self.assertEqual(spare(web, whole(web), 0), (0, 2, 1))

    def test_against_all_ways(self):
        for web, keep in webs_and_keeps(60):
            for tie in keep:
                a, b, length = web[1][tie]
                told = spare(web, keep, tie)
                self.assertEqual(told, slow_way(web, leaving(keep, tie), a, b))
                self.assertTrue(all_whole(told))

    def test_great_webs(self):
        for web in great_webs():
            for tie in (0, 17, len(web[1]) - 1):
                a, b, length = web[1][tie]
                told = spare(web, whole(web), tie)
                around = slow_fars(web, leaving(whole(web), tie))[a][b]
                self.assertEqual(None if told is None else slow_length(web, told), around)


class NoneFewerTest(unittest.TestCase):
    def test_heights_by_steps_whatever_the_lengths(self):
        web = made_web(4, [(0, 1, 50), (1, 2, 7), (2, 3, 10 ** 18), (0, 3, 1)])
        told = ((0, 3, 2, 1), (0, 1, 2, 3), (1, 0, 3, 2), (2, 1, 0, 3))
        self.assertEqual(none_fewer(web, whole(web), 4), told)
        self.assertIs(fewer_right(web, whole(web), 4, told), True)
        self.assertIsNone(none_fewer(web, whole(web), 5))
        self.assertEqual(none_fewer(web, whole(web), 3), ((0, 2, 2, 1), (0, 1, 2, 2), (1, 0, 2, 2), (2, 1, 0, 2)))

    def test_heights_by_length_do_not_show_it(self):
        web = made_web(3, [(0, 1, 5), (0, 2, 5), (1, 2, 5)])
        self.assertIs(fewer_right(web, whole(web), 3, ((0, 2, 1), (0, 1, 2), (1, 0, 2))), True)
        self.assertIs(fewer_right(web, whole(web), 3, ((0, 10, 5), (0, 5, 10), (5, 0, 10))), False)
        self.assertIs(fewer_right(web, whole(web), 4, ((0, 10, 5), (0, 5, 10), (5, 0, 10))), False)

    def test_of_no_ties_and_no_rings(self):
        self.assertEqual(none_fewer(full_web(4), (), 99), ())
        self.assertIs(fewer_right(full_web(4), (), 99, ()), True)
        self.assertIs(fewer_right(full_web(4), (), 99, ((0, 0, 0, 0),)), False)
        self.assertEqual(none_fewer(full_web(3), (0, 1), 99), ((0, 98, 1), (0, 1, 98)))

    def test_told_just_where_no_ring_has_fewer(self):
        for web, keep in webs_and_keeps(40):
            sizes = [len(ring) for ring in slow_rings(web, keep)]
            steps = by_one(web)
            for g in (3, 4, 5, 6, 7, 99):
                told = none_fewer(web, keep, g)
                if min(sizes, default=g) < g:
                    self.assertIsNone(told)
                    continue
                self.assertIs(fewer_right(web, keep, g, told), True)
                self.assertTrue(all_whole(told))
                for tie, heights in zip(keep, told):
                    row = slow_fars(steps, leaving(keep, tie))[web[1][tie][0]]
                    self.assertEqual(heights, tuple(g - 1 if far is None else min(far, g - 1) for far in row))

    def test_about_the_size_of_the_least_ring(self):
        for web in great_webs() + [ring_web(24, 10 ** 18), ring_web(5)]:
            size = len(least_ring(web, whole(web)))
            for g in (3, size):
                told = none_fewer(web, whole(web), g)
                self.assertEqual(len(told), len(web[1]))
                self.assertIs(fewer_right(web, whole(web), g, told), True)
                self.assertIs(fewer_right(web, whole(web), g + 1, told), False)
            self.assertIsNone(none_fewer(web, whole(web), size + 1))
            self.assertIsNone(none_fewer(web, whole(web), 99))

    def test_what_is_let_by_is_so(self):
        for web, keep in webs_and_keeps(16, 5):
            sizes = [len(ring) for ring in slow_rings(web, keep)]
            for g in (3, 4, 5):
                for told in [none_fewer(web, keep, 3), none_fewer(web, keep, g)]:
                    if told is None:
                        continue
                    for paper in [told] + list(altered(told)):
                        right = fewer_right(web, keep, g, paper)
                        self.assertIs(right, slow_fewer_right(web, keep, g, paper), (web, keep, g, paper))
                        if right:
                            self.assertGreaterEqual(min(sizes, default=99), g)

    def test_whatever_tuples(self):
        for web, keep in webs_and_keeps(8):
            for told in [(), ((),) * len(keep), ((0,) * web[0],) * len(keep), ((0,) * web[0],) * 400]:
                self.assertIs(fewer_right(web, keep, 3, told), slow_fewer_right(web, keep, 3, told))
            for heights in ODD_TUPLES:
                for told in ((heights,), (heights,) * len(keep), (heights,) * (len(keep) + 1)):
                    self.assertIs(fewer_right(web, keep, 3, told), slow_fewer_right(web, keep, 3, told))

    def test_any_heights_that_show_it(self):
        web = ring_web(4)
        lowered = tuple(tuple(-5 - height for height in heights) for heights in none_fewer(web, whole(web), 4))
        self.assertIs(fewer_right(web, whole(web), 4, lowered), True)
        self.assertIs(fewer_right(web, whole(web), 3, lowered), True)
        self.assertIs(fewer_right(web, whole(web), 5, lowered), False)
        self.assertIs(fewer_right(web, whole(web), 4, ((True, 4, 3, 2),) + lowered[1:]), False)


if __name__ == "__main__":
    unittest.main()
