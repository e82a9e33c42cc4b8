import unittest
from itertools import permutations

from tests.helper import (
    ODD_TUPLES, Draw, all_whole, comes_first, drawn_keep, full_web, great_webs, ring_web, slow_fars, slow_length,
    slow_rings, slow_ties, webs_and_keeps,
)
from thinways.rings import least_ring, ring_right, shortest_ring
from thinways.webs import made_web, tie_between, whole

FIVE = full_web(5)


def closed(ring):
    return ring + ring[:1]


def slow_least(rings):
    return min(rings, key=lambda ring: (len(ring), ring), default=None)


def slow_shortest(web, rings):
    best = None
    for ring in rings:
        if best is None or slow_length(web, closed(ring)) < slow_length(web, closed(best)):
            best = ring
        elif slow_length(web, closed(ring)) == slow_length(web, closed(best)):
            if comes_first(slow_ties(web, closed(ring)), slow_ties(web, closed(best))):
                best = ring
    return best


class RingRightTest(unittest.TestCase):
    def test_right_rings(self):
        for ring in ((0, 1, 2), (0, 3, 4), (2, 3, 4), (0, 1, 2, 3, 4), (0, 2, 4, 1, 3), (1, 3, 2, 4)):
            self.assertIs(ring_right(FIVE, whole(FIVE), ring), True, ring)

    def test_fewer_than_three_places(self):
        for ring in ((), (0,), (0, 1), (1, 0), (0, 0)):
            self.assertIs(ring_right(FIVE, whole(FIVE), ring), False, ring)

    def test_places_twice_or_none(self):
        for ring in ((0, 1, 1), (0, 0, 1), (0, 1, 0, 2), (0, 1, 5), (-1, 0, 1), (0, 1, 2, 0), (0, 1, 2, 1),
                     (0, 1, 10 ** 59), (-10 ** 59, 0, 1), (-5, -4, -3), (0, 1, True), (False, 1, 2)):
            self.assertIs(ring_right(FIVE, whole(FIVE), ring), False, ring)

    def test_the_least_first_and_the_second_less_than_the_last(self):
        for places in ((0, 1, 2), (1, 2, 4), (0, 1, 2, 3), (1, 2, 3, 4)):
            for ring in permutations(places):
                right = ring[0] == min(ring) and ring[1] < ring[-1]
                self.assertIs(ring_right(FIVE, whole(FIVE), ring), right, ring)

    def test_each_tie_is_kept_the_last_one_too(self):
        web = ring_web(5)
        ring = (0, 1, 2, 3, 4)
        self.assertIs(ring_right(web, whole(web), ring), True)
        for tie in whole(web):
            self.assertIs(ring_right(web, tuple(other for other in whole(web) if other != tie), ring), False)
        without = tuple(tie for tie in whole(FIVE) if tie != tie_between(FIVE, 0, 2))
        self.assertIs(ring_right(FIVE, without, (0, 1, 2)), False)
        self.assertIs(ring_right(FIVE, without, (0, 1, 2, 3)), True)

    def test_whatever_tuples(self):
        for web, keep in webs_and_keeps(20):
            rings = slow_rings(web, keep)
            for ring in ODD_TUPLES + tuple(rings) + ((0, 1, 2), (0, 2, 1), (0, 1, 2, 3), (1, 2, 3)):
                self.assertIs(ring_right(web, keep, ring), ring in rings)


class LeastRingTest(unittest.TestCase):
    def test_the_least_size_whatever_the_lengths(self):
        web = made_web(5, [(0, 1, 1), (1, 2, 1), (2, 3, 1), (0, 3, 1), (3, 4, 100), (2, 4, 100)])
        self.assertEqual(least_ring(web, whole(web)), (2, 3, 4))

    def test_of_several_the_first_as_tuples(self):
        self.assertEqual(least_ring(FIVE, whole(FIVE)), (0, 1, 2))
        # The rings (0, 1, 4, 5) and (0, 2, 3, 5): the ties of the latter come first.
        web = made_web(6, [(0, 1, 1), (0, 2, 1), (1, 4, 1), (2, 3, 1), (3, 5, 1), (4, 5, 1), (0, 5, 1)])
        self.assertEqual(least_ring(web, whole(web)), (0, 1, 4, 5))

    def test_none(self):
        self.assertIsNone(least_ring(FIVE, ()))
        self.assertIsNone(least_ring(FIVE, (0, 1, 2, 3)))
        self.assertIsNone(least_ring((1, ()), ()))

    def test_against_all_rings(self):
        for web, keep in webs_and_keeps(120, 7):
            told = least_ring(web, keep)
            self.assertEqual(told, slow_least(slow_rings(web, keep)))
            self.assertTrue(all_whole(told))


class ShortestRingTest(unittest.TestCase):
    def test_the_shortest_whatever_the_size(self):
        web = made_web(5, [(0, 1, 1), (1, 2, 1), (2, 3, 1), (0, 3, 1), (3, 4, 100), (2, 4, 100)])
        self.assertEqual(shortest_ring(web, whole(web)), (0, 1, 2, 3))

    def test_of_several_the_one_whose_ties_come_first(self):
        web = made_web(6, [(0, 1, 1), (0, 2, 1), (1, 4, 1), (2, 3, 1), (3, 5, 1), (4, 5, 1), (0, 5, 1)])
        self.assertEqual(shortest_ring(web, whole(web)), (0, 2, 3, 5))
        # Two rings apart: the ties of the latter have lesser greatest numbers, though it isn't the first as tuples.
        web = made_web(6, [(0, 4, 1), (0, 5, 1), (4, 5, 1), (1, 2, 1), (1, 3, 1), (2, 3, 1)])
        self.assertEqual(shortest_ring(web, whole(web)), (1, 2, 3))
        self.assertEqual(least_ring(web, whole(web)), (0, 4, 5))

    def test_none(self):
        self.assertIsNone(shortest_ring(FIVE, ()))
        self.assertIsNone(shortest_ring(FIVE, (0, 1, 2, 3)))
        self.assertIsNone(shortest_ring((1, ()), ()))

    def test_against_all_rings(self):
        for web, keep in webs_and_keeps(120, 7):
            told = shortest_ring(web, keep)
            self.assertEqual(told, slow_shortest(web, slow_rings(web, keep)))
            self.assertTrue(all_whole(told))


class GreatTest(unittest.TestCase):
    def test_great_webs(self):
        for seed, web in enumerate(great_webs()):
            for keep in (whole(web), drawn_keep(Draw(seed), web)):
                sizes = []
                lengths = []
                for tie in keep:
                    a, b, length = web[1][tie]
                    rest = tuple(other for other in keep if other != tie)
                    sizes.append(slow_fars((24, tuple(link[:2] + (1,) for link in web[1])), rest)[a][b])
                    round_it = slow_fars(web, rest)[a][b]
                    lengths.append(None if round_it is None else round_it + length)
                least = least_ring(web, keep)
                shortest = shortest_ring(web, keep)
                self.assertIs(ring_right(web, keep, least), True)
                self.assertIs(ring_right(web, keep, shortest), True)
                self.assertEqual(len(least) - 1, min(size for size in sizes if size is not None))
                shortest_length = slow_length(web, closed(shortest))
                self.assertEqual(shortest_length, min(length for length in lengths if length is not None))

    def test_a_ring_of_all_places(self):
        web = ring_web(24, 10 ** 18)
        self.assertEqual(least_ring(web, whole(web)), tuple(range(24)))
        self.assertEqual(shortest_ring(web, whole(web)), tuple(range(24)))


if __name__ == "__main__":
    unittest.main()
