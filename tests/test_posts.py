import unittest

from tests.helper import (
    ODD_TUPLES, Draw, all_keeps, all_whole, altered, drawn_keep, drawn_places, drawn_webs, full_web, great_webs,
    ring_web, roofed, slow_fars, slow_hold, slow_ties, slow_way, tied,
)
from thinways.posts import post_paper, post_trees, posts_right
from thinways.ways import the_way
from thinways.webs import is_keep, made_web, whole

ROOF = 10 ** 20
# Two pieces: a ring 0-1-2-3 with one long tie, and 4-5.
PARTED = made_web(6, [(0, 1, 2), (1, 2, 2), (2, 3, 2), (0, 3, 5), (4, 5, 7)])


def slow_post_right(web, keep, post, heights):
    if not slow_hold(web, whole(web), heights) or heights[post] != 0:
        return False
    links = tied(web, keep)
    for place in range(web[0]):
        lower = [other for (one, other), (tie, length) in links.items()
                 if one == place and heights[other] == heights[place] - length]
        if place != post and heights[place] < ROOF and not lower:
            return False
    return True


def slow_posts_right(web, keep, posts, paper):
    if len(paper) != len(posts):
        return False
    return all(slow_post_right(web, keep, post, heights) for post, heights in zip(posts, paper))


def keeps_far(web, keep, posts):
    fars = slow_fars(web, keep)
    whole_fars = slow_fars(web, whole(web))
    return all(fars[post] == whole_fars[post] for post in posts)


def posts_of(web, seed):
    return [(), (0,), (web[0] - 1,), tuple(range(web[0])), drawn_places(Draw(seed), web[0])]


class TreesTest(unittest.TestCase):
    def test_of_none_of_one_and_of_several(self):
        # Ties 0: 0-1, 1: 0-3, 2: 1-2, 3: 2-3, 4: 4-5.
        self.assertEqual(post_trees(PARTED, ()), ())
        self.assertEqual(post_trees(PARTED, (0,)), (0, 1, 2))
        self.assertEqual(post_trees(PARTED, (2,)), (0, 2, 3))
        self.assertEqual(post_trees(PARTED, (4,)), (4,))
        self.assertEqual(post_trees(PARTED, (0, 2, 5)), (0, 1, 2, 3, 4))
        self.assertEqual(post_trees((1, ()), (0,)), ())
        self.assertEqual(post_trees(full_web(5), (2,)), (1, 4, 7, 8))

    def test_the_ties_of_the_ways_from_the_posts(self):
        for seed, web in enumerate(drawn_webs(48)):
            for posts in posts_of(web, seed):
                keep = post_trees(web, posts)
                ties = set()
                for post in posts:
                    for place in range(web[0]):
                        way = slow_way(web, whole(web), post, place)
                        ties = ties | (slow_ties(web, way) if way else set())
                self.assertEqual(keep, tuple(sorted(ties)))
                self.assertTrue(all_whole(keep))
                self.assertTrue(keeps_far(web, keep, posts))

    def test_great_webs(self):
        for seed, web in enumerate(great_webs()):
            for posts in posts_of(web, seed):
                keep = post_trees(web, posts)
                self.assertTrue(is_keep(web, keep))
                self.assertTrue(keeps_far(web, keep, posts))
                ties = set()
                for post in posts:
                    for place in range(web[0]):
                        way = the_way(web, whole(web), post, place)
                        ties = ties | (slow_ties(web, way) if way else set())
                self.assertEqual(keep, tuple(sorted(ties)))


class PaperTest(unittest.TestCase):
    def test_heights_in_the_web_with_the_roof(self):
        self.assertEqual(post_paper(PARTED, ()), ())
        self.assertEqual(post_paper(PARTED, (0, 4)), ((0, 2, 4, 5, ROOF, ROOF), (ROOF, ROOF, ROOF, ROOF, 0, 7)))
        self.assertEqual(post_paper((1, ()), (0,)), ((0,),))
        self.assertEqual(post_paper((2, ()), (1,)), ((ROOF, 0),))

    def test_against_distances(self):
        for seed, web in enumerate(drawn_webs(48) + great_webs()):
            fars = slow_fars(web, whole(web))
            for posts in posts_of(web, seed):
                paper = post_paper(web, posts)
                self.assertEqual(paper, tuple(roofed(fars[post], ROOF) for post in posts))
                self.assertTrue(all_whole(paper))
                self.assertIs(posts_right(web, post_trees(web, posts), posts, paper), True)
                self.assertIs(posts_right(web, whole(web), posts, paper), True)

    def test_the_longest_way_of_all_is_below_the_roof(self):
        web = made_web(24, [(i, i + 1, 10 ** 18) for i in range(23)])
        self.assertEqual(post_paper(web, (0,)), (tuple(i * 10 ** 18 for i in range(24)),))


class RightTest(unittest.TestCase):
    def test_any_keep(self):
        right = 0
        for seed, web in enumerate(drawn_webs(32, 4)):
            for posts in posts_of(web, seed):
                paper = post_paper(web, posts)
                for keep in all_keeps(web):
                    asked = keeps_far(web, keep, posts)
                    self.assertIs(posts_right(web, keep, posts, paper), asked, (web, keep, posts))
                    right = right + asked
        self.assertGreater(right, 100)

    def test_other_heights_where_no_way_leads(self):
        for heights, asked in (((0, 2, 4, 5, ROOF + 9, ROOF + 2), True), ((0, 2, 4, 5, ROOF - 1, ROOF + 6), False),
                               ((0, 2, 4, 5, ROOF, ROOF + 7), True), ((0, 2, 4, 5, ROOF, ROOF + 8), False),
                               ((0, 2, 4, 5, ROOF, ROOF - 7), False), ((0, 2, 4, 5, 10 ** 59, 10 ** 59), True),
                               ((0, 2, 4, 5, 0, 7), False), ((0, 2, 4, 5, -10 ** 59, -10 ** 59), False)):
            self.assertIs(posts_right(PARTED, (0, 1, 2, 4), (0,), (heights,)), asked, heights)

    def test_a_height_of_nought_at_the_post(self):
        self.assertIs(posts_right(PARTED, whole(PARTED), (4,), ((ROOF,) * 4 + (0, 7),)), True)
        for heights in ((ROOF,) * 4 + (1, 8), (ROOF,) * 4 + (7, 0), (ROOF,) * 6, (ROOF,) * 4 + (-1, 6)):
            self.assertIs(posts_right(PARTED, whole(PARTED), (4,), (heights,)), False)

    def test_lower_by_just_the_length(self):
        web = made_web(3, [(0, 1, 3), (1, 2, 4)])
        for heights, asked in (((0, 3, 7), True), ((0, 2, 6), False), ((0, 3, 6), False), ((0, 3, 8), False),
                               ((0, -3, 1), False), ((0, 3, -1), False)):
            self.assertIs(posts_right(web, (0, 1), (0,), (heights,)), asked, heights)
        self.assertIs(posts_right(web, (0,), (0,), ((0, 3, 7),)), False)

    def test_one_thing_otherwise_at_each_place(self):
        lets = {True: 0, False: 0}
        for seed, web in enumerate(drawn_webs(32, 5) + [PARTED]):
            for posts in posts_of(web, seed):
                for keep in (post_trees(web, posts), whole(web), drawn_keep(Draw(seed), web)):
                    for paper in altered(post_paper(web, posts)):
                        right = posts_right(web, keep, posts, paper)
                        self.assertIs(right, slow_posts_right(web, keep, posts, paper), (web, keep, posts, paper))
                        lets[right] += 1
                        if right:
                            self.assertTrue(keeps_far(web, keep, posts))
        self.assertGreater(lets[True], 100)
        self.assertGreater(lets[False], 1000)

    def test_a_kept_tie_too_few(self):
        for seed, web in enumerate(great_webs()):
            for posts in ((0,), (3, 11, 20)):
                keep = post_trees(web, posts)
                for tie in keep[::5]:
                    fewer = tuple(other for other in keep if other != tie)
                    asked = keeps_far(web, fewer, posts)
                    self.assertIs(posts_right(web, fewer, posts, post_paper(web, posts)), asked)

    def test_whatever_tuples(self):
        for seed, web in enumerate(drawn_webs(12)):
            for posts in posts_of(web, seed):
                papers = [(), ((),), ((),) * len(posts), ((),) * 400]
                for odd in ODD_TUPLES:
                    papers.extend([(odd,), (odd,) * len(posts), (odd,) * 400, post_paper(web, posts) + (odd,)])
                for paper in papers:
                    asked = slow_posts_right(web, whole(web), posts, paper)
                    self.assertIs(posts_right(web, whole(web), posts, paper), asked, (web, posts, paper))


class OwnTest(unittest.TestCase):
    def test_the_same_question_has_the_same_answer(self):
        for web in (PARTED, ring_web(8), great_webs()[0]):
            posts = (0, 3)
            for ask in (lambda: post_trees(web, posts), lambda: post_paper(web, posts)):
                first = ask()
                self.assertIsInstance(first, tuple)
                self.assertEqual(ask(), first)
            self.assertEqual(posts, (0, 3))


if __name__ == "__main__":
    unittest.main()
