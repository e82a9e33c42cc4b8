import unittest

from tests.helper import (
    NO_TIMES, all_keeps, all_whole, drawn_webs, full_web, great_webs, ring_web, slow_of_times,
)
from tests.test_cases import slow_show
from thinways.cases import cases_show
from thinways.errors import NoTimes, ThinError, TooMany
from thinways.fewest import fewest
from thinways.rule import needed, ring_rule
from thinways.webs import made_web, whole

TOP = 10 ** 18
ELEVEN = made_web(12, [(0, b, 1) for b in range(1, 12)])


def ten_ties():
    """Webs of just ten ties: full, a ring, a star, two rings, long ties and short ones, up to 24 places."""
    rows = [(0, 1, TOP), (1, 2, TOP - 1), (2, 3, TOP), (0, 3, TOP), (0, 2, TOP), (1, 3, TOP), (3, 4, 1), (4, 5, TOP),
            (3, 5, TOP), (20, 23, 7)]
    two = [(i, (i + 1) % 5, 1) for i in range(5)] + [(5 + i, 5 + (i + 1) % 5, 2) for i in range(5)]
    wheel = [(0, i, 3) for i in range(1, 6)] + [(i, i % 5 + 1, 2) for i in range(1, 6)]
    return [full_web(5), full_web(5, TOP), ring_web(10), made_web(24, [(23, b, 5) for b in range(10)]),
            made_web(24, rows), made_web(10, two), made_web(6, wheel)]


class FewestTest(unittest.TestCase):
    def check(self, web, t):
        told = fewest(web, t)
        self.assertTrue(all_whole(told))
        keep, tree = told
        fit = [other for other in all_keeps(web) if slow_of_times(web, other, t)]
        least = min(len(other) for other in fit)
        self.assertEqual(keep, min(other for other in fit if len(other) == least))
        self.assertEqual(slow_show(web, t, tree), least)
        self.assertEqual(cases_show(web, t, tree), least)
        return keep

    def test_small_ones(self):
        self.assertEqual(fewest((1, ()), 1), ((), ("kept",)))
        self.assertEqual(fewest((24, ()), 99), ((), ("kept",)))
        self.assertEqual(fewest(ring_web(4), 3)[0], (0, 1, 2))
        self.assertEqual(fewest(ring_web(4), 2)[0], (0, 1, 2, 3))
        self.assertEqual(fewest(full_web(4), 1)[0], (0, 1, 2, 3, 4, 5))
        self.assertEqual(fewest(full_web(4), 2)[0], (0, 1, 2))

    def test_the_first_as_tuples_not_the_shortest_one(self):
        web = made_web(3, [(0, 1, 5), (0, 2, 5), (1, 2, 4)])
        self.assertEqual(fewest(web, 3)[0], (0, 1))
        self.assertEqual(ring_rule(web, 3)[0], (0, 2))

    def test_fewer_than_the_rule_keeps(self):
        # A star on a ring of five: by spokes of 3 the rim's ends are 6 apart, just three times 2.
        web = ten_ties()[6]
        self.assertEqual(fewest(web, 3)[0], (0, 1, 2, 3, 4))
        self.assertEqual(len(ring_rule(web, 3)[0]), 6)
        fewer = [1 for web in drawn_webs(48, 5) for t in (2, 3)
                 if len(web[1]) <= 10 and len(fewest(web, t)[0]) < len(ring_rule(web, t)[0])]
        self.assertGreater(len(fewer), 0)

    def test_against_all_keeps(self):
        for web in drawn_webs(48, 4):
            for t in (1, 2, 3, 99):
                self.check(web, t)

    def test_against_all_keeps_of_five_places(self):
        for web in drawn_webs(24, 5)[::2]:
            for t in (2, 3):
                keep = self.check(web, t)
                self.assertTrue(set(needed(web, whole(web), t)) <= set(keep))

    def test_ten_ties(self):
        for web in ten_ties():
            self.assertEqual(len(web[1]), 10)
            for t in (1, 2, 3):
                self.check(web, t)

    def test_too_many(self):
        for web in [ELEVEN, full_web(6), ring_web(11), ring_web(24)] + great_webs():
            for t in (1, 3, 99):
                with self.assertRaises(TooMany) as caught:
                    fewest(web, t)
                self.assertIsInstance(caught.exception, ThinError)

    def test_no_times_ahead_of_too_many(self):
        for t in NO_TIMES:
            for web in (ELEVEN, full_web(3), (1, ()), None):
                with self.assertRaises(NoTimes):
                    fewest(web, t)

    def test_the_same_question_has_the_same_answer(self):
        for web in ten_ties()[:3]:
            before = (web[0], tuple(tuple(tie) for tie in web[1]))
            self.assertEqual(fewest(web, 3), fewest(web, 3))
            self.assertEqual(web, before)


if __name__ == "__main__":
    unittest.main()
