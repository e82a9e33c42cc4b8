import unittest
from fractions import Fraction
from math import gcd

from tests.helper import (
    NO_TIMES, ODD_TUPLES, Draw, all_whole, altered, drawn_keep, full_web, great_webs, outside, ring_web, slow_beyond,
    slow_fars, slow_of_times, slow_way, slow_within, webs_and_keeps,
)
from thinways.errors import NoOrder, NoTimes
from thinways.rule import needed, ring_rule, rule_in, rule_right
from thinways.times import least_ratio, times_right, times_told
from thinways.webs import made_web, whole

RING = ring_web(5)


def slow_times_right(web, keep, t, told):
    if len(told) == 2 and told[0] == "keeps":
        ties = outside(web, keep)
        ways = told[1]
        return len(ways) == len(ties) and all(slow_within(web, keep, tie, t, way) for tie, way in zip(ties, ways))
    if len(told) == 3 and told[0] == "far":
        return told[1] in outside(web, keep) and slow_beyond(web, keep, told[1], t, told[2])
    return False


class NoTimesTest(unittest.TestCase):
    def test_wherever_t_is_handed_in(self):
        for t in NO_TIMES:
            for ask in (lambda: times_told(RING, (0, 1), t), lambda: times_right(RING, (0, 1), t, ("keeps", ())),
                        lambda: ring_rule(RING, t), lambda: rule_right(RING, t, ((), ())),
                        lambda: rule_in(RING, (0, 1, 2, 3, 4), t), lambda: needed(RING, (0, 1), t)):
                with self.assertRaises(NoTimes):
                    ask()

    def test_ahead_of_all_others(self):
        for t in NO_TIMES:
            for wrong in (None, "x", 5, (), (25, ()), [1]):
                for ask in (lambda: times_told(wrong, wrong, t), lambda: times_right(wrong, wrong, t, wrong),
                            lambda: ring_rule(wrong, t), lambda: rule_right(wrong, t, wrong),
                            lambda: rule_in(wrong, wrong, t), lambda: needed(wrong, wrong, t)):
                    with self.assertRaises(NoTimes) as caught:
                        ask()
                    self.assertNotIsInstance(caught.exception, NoOrder)

    def test_one_and_ninety_nine(self):
        for t in (1, 2, 98, 99):
            self.assertEqual(times_told(RING, whole(RING), t), ("keeps", ()))
            self.assertIs(times_right(RING, whole(RING), t, ("keeps", ())), True)
            self.assertEqual(ring_rule(RING, t)[0], whole(RING) if t < 4 else (0, 1, 2, 3))
            self.assertEqual(rule_in(RING, (4, 3, 2, 1, 0), t), whole(RING) if t < 4 else (1, 2, 3, 4))
            self.assertEqual(needed(RING, whole(RING), t), whole(RING) if t < 4 else ())


class ToldTest(unittest.TestCase):
    def test_just_t_times_and_one_farther(self):
        web = made_web(3, [(0, 1, 5), (0, 2, 4), (1, 2, 11)])
        # Ties 0: 0-1, 1: 0-2, 2: 1-2. By 1 and 2 the ends of 0 are 15 apart, just 3 times 5.
        self.assertEqual(times_told(web, (1, 2), 3), ("keeps", ((0, 2, 1),)))
        self.assertEqual(times_told(web, (1, 2), 2), ("far", 0, (0, 11, 4)))
        longer = made_web(3, [(0, 1, 5), (0, 2, 4), (1, 2, 12)])
        self.assertEqual(times_told(longer, (1, 2), 3), ("far", 0, (0, 16, 4)))
        self.assertEqual(times_told(longer, (1, 2), 4), ("keeps", ((0, 2, 1),)))

    def test_the_first_tie_by_number(self):
        web = made_web(4, [(0, 1, 9), (0, 2, 1), (1, 3, 1), (2, 3, 1)])
        self.assertEqual(times_told(web, (), 1), ("far", 0, (0, 10, 10, 10)))
        self.assertEqual(times_told(web, (0,), 2), ("far", 1, (0, 3, 3, 3)))
        self.assertEqual(times_told(web, (0, 1, 2), 99), ("keeps", ((2, 0, 1, 3),)))
        self.assertEqual(times_told(web, (0, 1, 2), 10), ("far", 3, (1, 10, 0, 11)))

    def test_of_no_ties(self):
        self.assertEqual(times_told((3, ()), (), 1), ("keeps", ()))
        self.assertIs(times_right((3, ()), (), 1, ("keeps", ())), True)
        self.assertIs(times_right((3, ()), (), 1, ("far", 0, (0, 0, 0))), False)

    def test_where_several_ways_are_as_short(self):
        # Ties 0: 0-1, 1: 0-2, 2: 0-3, 3: 1-3, 4: 2-3: round 2 by (0, 3) or by (1, 4).
        web = made_web(4, [(0, 1, 1), (0, 2, 1), (0, 3, 1), (1, 3, 1), (2, 3, 1)])
        self.assertEqual(times_told(web, (0, 1, 3, 4), 2), ("keeps", ((0, 1, 3),)))

    def check(self, web, keep, t, fars):
        told = times_told(web, keep, t)
        self.assertTrue(all_whole(told))
        self.assertIs(times_right(web, keep, t, told), True)
        self.assertEqual(told[0] == "keeps", slow_of_times(web, keep, t))
        lengths = [(tie, fars[web[1][tie][0]][web[1][tie][1]]) for tie in outside(web, keep)]
        too_far = [tie for tie, far in lengths if far is None or far > t * web[1][tie][2]]
        if told[0] == "far":
            roof = t * web[1][too_far[0]][2] + 1
            row = fars[web[1][too_far[0]][0]]
            self.assertEqual(told, ("far", too_far[0], tuple(roof if far is None else min(far, roof) for far in row)))
        else:
            self.assertEqual((too_far, len(told[1])), ([], len(lengths)))
        return told

    def test_against_distances(self):
        for web, keep in webs_and_keeps(60):
            for t in (1, 2, 3, 99):
                told = self.check(web, keep, t, slow_fars(web, keep))
                if told[0] == "keeps":
                    ways = [slow_way(web, keep, web[1][tie][0], web[1][tie][1]) for tie in outside(web, keep)]
                    self.assertEqual(told[1], tuple(ways))

    def test_great_webs(self):
        for seed, web in enumerate(great_webs()):
            for keep in (whole(web), drawn_keep(Draw(seed), web), ()):
                for t in (1, 5, 99):
                    self.check(web, keep, t, slow_fars(web, keep))


class RightTest(unittest.TestCase):
    def test_any_way_and_any_heights_will_do(self):
        web = full_web(4)
        keep = (0, 1, 3, 4, 5)
        self.assertEqual(times_told(web, keep, 3), ("keeps", ((0, 1, 3),)))
        for way, right in (((0, 2, 3), True), ((0, 2, 1, 3), True), ((3, 1, 0), False), ((0, 3), False)):
            self.assertIs(times_right(web, keep, 3, ("keeps", (way,))), right)
        self.assertIs(times_right(web, keep, 2, ("keeps", ((0, 2, 1, 3),))), False)
        # Any tie that isn't kept, not the first one alone, and any heights.
        for tie in (1, 2, 3, 4):
            self.assertIs(times_right(web, (0, 5), 1, ("far", tie, (-9, -9, 9, 9))), True)
        for tie in (0, 5, -1, -2, 6, 10 ** 59):
            self.assertIs(times_right(web, (0, 5), 1, ("far", tie, (-9, -9, 9, 9))), False)
        self.assertIs(times_right(web, (0, 5), 17, ("far", 1, (-9, -9, 9, 9))), True)
        self.assertIs(times_right(web, (0, 5), 18, ("far", 1, (-9, -9, 9, 9))), False)
        self.assertIs(times_right(web, (0, 5), 18, ("far", True, (-9, -9, 19, 19))), False)

    def test_one_thing_otherwise_at_each_place(self):
        for web, keep in webs_and_keeps(30, 5):
            for t in (1, 2, 3):
                told = times_told(web, keep, t)
                for paper in altered(told):
                    right = times_right(web, keep, t, paper)
                    self.assertIs(right, slow_times_right(web, keep, t, paper), (web, keep, t, paper))
                    if right:
                        self.assertEqual(paper[0] == "keeps", slow_of_times(web, keep, t))

    def test_whatever_tuples(self):
        for web, keep in webs_and_keeps(10):
            papers = [(), ("keeps", ()), ("keeps",), ("far",), ("keeps", (), ()), ("far", 0), ("far", 0, (), ())]
            for odd in ODD_TUPLES:
                papers.extend([("keeps", (odd,)), ("keeps", (odd,) * len(outside(web, keep))), ("keeps", (odd,) * 400)])
                papers.extend(("far", tie, odd) for tie in (0, 1, 2, -1, 60, 10 ** 59, -10 ** 59))
            for paper in papers:
                self.assertIs(times_right(web, keep, 2, paper), slow_times_right(web, keep, 2, paper), paper)


class RatioTest(unittest.TestCase):
    def test_without_a_common_part(self):
        web = made_web(3, [(0, 1, 6), (0, 2, 4), (1, 2, 11)])
        self.assertEqual(least_ratio(web, (1, 2)), (5, 2))
        self.assertEqual(least_ratio(web, (0, 1)), (1, 1))
        self.assertEqual(least_ratio(web, (0, 2)), (17, 4))

    def test_where_nothing_grows(self):
        self.assertEqual(least_ratio((1, ()), ()), (1, 1))
        self.assertEqual(least_ratio((3, ()), ()), (1, 1))
        for web, keep in webs_and_keeps(10):
            self.assertEqual(least_ratio(web, whole(web)), (1, 1))
        self.assertEqual(least_ratio(made_web(3, [(0, 1, 1), (1, 2, 1), (0, 2, 2)]), (0, 2)), (1, 1))

    def test_none_where_ends_are_parted(self):
        self.assertIsNone(least_ratio(RING, ()))
        self.assertIsNone(least_ratio(RING, (0, 1, 2)))
        self.assertIsNone(least_ratio(made_web(4, [(0, 1, 1), (0, 2, 1), (1, 2, 1), (0, 3, 1)]), (0, 1)))

    def check(self, web, keep):
        told = least_ratio(web, keep)
        ratios = [Fraction(1)]
        fars = slow_fars(web, keep)
        for a, row in enumerate(slow_fars(web, whole(web))):
            for b, far in enumerate(row):
                if far is not None and fars[a][b] is None:
                    self.assertIsNone(told)
                    return
                if far:
                    ratios.append(Fraction(fars[a][b], far))
        self.assertIsInstance(told, tuple)
        self.assertTrue(all_whole(told))
        self.assertEqual(Fraction(*told), max(ratios))
        self.assertEqual(gcd(*told), 1)

    def test_against_every_two_places(self):
        for web, keep in webs_and_keeps(80):
            self.check(web, keep)

    def test_great_webs(self):
        for seed, web in enumerate(great_webs()):
            for keep in (whole(web), drawn_keep(Draw(seed), web), ring_rule(web, 3)[0], ring_rule(web, 99)[0]):
                self.check(web, keep)


if __name__ == "__main__":
    unittest.main()
