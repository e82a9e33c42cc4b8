import unittest

from tests.helper import ODD_TUPLES, Draw, all_whole, drawn_keep, great_webs, slow_fars, webs_and_keeps
from thinways.heights import heights_from, heights_hold
from thinways.webs import made_web, whole

SMALL = made_web(5, [(0, 1, 2), (0, 2, 5), (1, 2, 3), (2, 3, 10 ** 18)])


class HoldTest(unittest.TestCase):
    def test_differences_of_just_a_length_and_one_more(self):
        web = made_web(2, [(0, 1, 7)])
        for low in (-10 ** 59, -7, -3, 0, 5):
            for difference, right in ((0, True), (6, True), (7, True), (8, False)):
                self.assertIs(heights_hold(web, (0,), (low, low + difference)), right)
                self.assertIs(heights_hold(web, (0,), (low + difference, low)), right)
            self.assertIs(heights_hold(web, (), (low, low + 8)), True)

    def test_each_kept_tie_counts(self):
        heights = (-1, 1, 4, 4 - 10 ** 18, 10 ** 59)
        self.assertIs(heights_hold(SMALL, whole(SMALL), heights), True)
        for place in range(4):
            for by in (10 ** 18, -10 ** 18 - 10):
                other = heights[:place] + (heights[place] + by,) + heights[place + 1:]
                self.assertIs(heights_hold(SMALL, whole(SMALL), other), place == 3 and by > 0)
        self.assertIs(heights_hold(SMALL, (1,), (0, 50, 5, 50, 50)), True)
        self.assertIs(heights_hold(SMALL, (1, 2), (0, 50, 5, 50, 50)), False)

    def test_just_one_for_each_place(self):
        for many in range(8):
            self.assertIs(heights_hold(SMALL, whole(SMALL), (0,) * many), many == 5)
            self.assertIs(heights_hold(SMALL, (), (3,) * many), many == 5)
        self.assertIs(heights_hold((1, ()), (), ()), False)
        self.assertIs(heights_hold((1, ()), (), (-4,)), True)

    def test_true_and_false_are_no_heights(self):
        web = made_web(2, [(0, 1, 7)])
        self.assertIs(heights_hold(web, (0,), (0, True)), False)
        self.assertIs(heights_hold(web, (0,), (False, 0)), False)

    def test_whatever_tuples(self):
        for web, keep in webs_and_keeps(20):
            for heights in ODD_TUPLES:
                right = len(heights) == web[0]
                if right:
                    ties = [web[1][tie] for tie in keep]
                    right = all(abs(heights[a] - heights[b]) <= length for a, b, length in ties)
                self.assertIs(heights_hold(web, keep, heights), right)

    def test_then_places_are_at_least_as_far(self):
        draw = Draw(3)
        for web, keep in webs_and_keeps(40, 4):
            fars = slow_fars(web, keep)
            for heights in [tuple(draw.below(5) - 2 for place in range(web[0])) for time in range(20)]:
                if heights_hold(web, keep, heights):
                    for a in range(web[0]):
                        for b in range(web[0]):
                            if fars[a][b] is not None:
                                self.assertLessEqual(abs(heights[a] - heights[b]), fars[a][b])


class FromTest(unittest.TestCase):
    def test_the_lesser_of_far_and_roof(self):
        keep = whole(SMALL)
        self.assertEqual(heights_from(SMALL, keep, 0, 0), (0, 0, 0, 0, 0))
        self.assertEqual(heights_from(SMALL, keep, 0, 1), (0, 1, 1, 1, 1))
        self.assertEqual(heights_from(SMALL, keep, 0, 2), (0, 2, 2, 2, 2))
        self.assertEqual(heights_from(SMALL, keep, 0, 3), (0, 2, 3, 3, 3))
        self.assertEqual(heights_from(SMALL, keep, 0, 10 ** 20), (0, 2, 5, 10 ** 18 + 5, 10 ** 20))
        self.assertEqual(heights_from(SMALL, keep, 4, 9), (9, 9, 9, 9, 0))
        self.assertEqual(heights_from(SMALL, (1, 2), 0, 10 ** 59), (0, 8, 5, 10 ** 59, 10 ** 59))
        self.assertEqual(heights_from((1, ()), (), 0, 10 ** 59), (0,))

    def test_roofs_about_each_distance(self):
        for web, keep in webs_and_keeps(40):
            fars = slow_fars(web, keep)
            for a in range(web[0]):
                roofs = {0, 10 ** 59}
                for length in [length for length in fars[a] if length is not None]:
                    roofs = roofs | {max(0, length - 1), length, length + 1}
                for roof in sorted(roofs):
                    asked = tuple(roof if length is None else min(length, roof) for length in fars[a])
                    told = heights_from(web, keep, a, roof)
                    self.assertEqual(told, asked)
                    self.assertIs(heights_hold(web, keep, told), True)
                    self.assertTrue(all_whole(told))

    def test_great_webs(self):
        for seed, web in enumerate(great_webs()):
            for keep in (whole(web), drawn_keep(Draw(seed), web), ()):
                fars = slow_fars(web, keep)
                for a in (0, 13, 23):
                    for roof in (0, 10 ** 18, 3 * 10 ** 18 - 1, 10 ** 20):
                        asked = tuple(roof if length is None else min(length, roof) for length in fars[a])
                        told = heights_from(web, keep, a, roof)
                        self.assertEqual(told, asked)
                        self.assertIs(heights_hold(web, keep, told), True)


if __name__ == "__main__":
    unittest.main()
