import unittest

from tests.helper import (
    ODD_TUPLES, Draw, all_whole, altered, drawn_keep, drawn_web, drawn_webs, forest_there, full_web, great_webs,
    ring_web, roofed, slow_fars, slow_hold, slow_led, slow_ties, slow_way, stands, tied, webs_and_keeps,
)
from thinways.forest import forest_paper, forest_right, least_forest
from thinways.light import light_paper, light_right, near_light
from thinways.ways import the_way
from thinways.webs import kept_length, made_web, whole

SLACKS = ((1, 1), (1, 2), (2, 1), (1, 7), (7, 1), (1, 10 ** 6), (10 ** 6, 1), (10 ** 6, 10 ** 6), (10 ** 6, 999999))
# A row of ones from 0 to 4, and a tie of 2 from 0 to its end.
BOW = made_web(5, [(0, 1, 1), (1, 2, 1), (2, 3, 1), (3, 4, 1), (0, 4, 2)])


def slow_put(web, root, p, q):
    forest = tied(web, least_forest(web))
    fars = slow_fars(web, whole(web))[root]
    seen = [root]
    put = []

    def go(here, count):
        for place in range(web[0]):
            if (here, place) in forest and place not in seen:
                seen.append(place)
                length = forest[(here, place)][1]
                count += length
                if q * count > (p + q) * fars[place]:
                    put.append(place)
                    count = fars[place]
                count = go(place, count) + length
        return count

    go(root, 0)
    return tuple(put)


def slow_light_right(web, root, p, q, keep, paper):
    if len(paper) != 4:
        return False
    heights, tree, forest, ways = paper
    if not slow_hold(web, whole(web), heights) or heights[root] != 0:
        return False
    if not isinstance(tree, tuple) or len(tree) != web[0]:
        return False
    for place, height in enumerate(heights):
        length = slow_led(web, keep, tree, root, place) if height < 10 ** 20 else 0
        if length is None or (height < 10 ** 20 and q * length > (p + q) * height):
            return False
    if (forest, ways) != (least_forest(web), ways) or not forest_right(web, (forest, ways)):
        return False
    return p * kept_length(web, keep) <= (p + 2 * q) * kept_length(web, forest_there(web, root))


class WalkTest(unittest.TestCase):
    def test_put_in_just_where_the_count_is_above(self):
        # At 4 the count is 4 and the place 2 far: not above (1 + 1) * 2 with q 1, but with q 2 above 3 * 2.
        self.assertEqual(near_light(BOW, 0, 1, 1), ((0, 2, 3, 4), ()))
        self.assertEqual(near_light(BOW, 0, 1, 2), ((0, 1, 2, 3, 4), (4,)))
        self.assertEqual(near_light(BOW, 0, 10 ** 6, 1), ((0, 2, 3, 4), ()))
        # From 4 on: 3, 2 and 1 come first, then 0 with a count of 4.
        self.assertEqual(near_light(BOW, 4, 1, 1), ((0, 2, 3, 4), ()))
        self.assertEqual(near_light(BOW, 4, 999999, 10 ** 6), ((0, 1, 2, 3, 4), (0,)))

    def test_the_count_grows_on_the_way_back_and_starts_anew(self):
        # From 0 to 1 and back 10, then on to 2: 11 is above 10 times 1, then it is just 1, so 3 is near enough.
        web = made_web(4, [(0, 1, 5), (0, 2, 1), (2, 3, 1)])
        self.assertEqual(near_light(web, 0, 9, 1), ((0, 1, 2), (2,)))
        self.assertEqual(near_light(web, 0, 10, 1), ((0, 1, 2), ()))
        # Back from 3 and from 2 to 0 the count is 4 and from there to 4 it is 5.
        web = made_web(5, [(0, 1, 5), (0, 2, 1), (2, 3, 1), (0, 4, 1)])
        self.assertEqual(near_light(web, 0, 9, 1), ((0, 1, 2, 3), (2,)))
        self.assertEqual(near_light(web, 0, 3, 1), ((0, 1, 2, 3), (2, 4)))
        self.assertEqual(near_light(web, 0, 4, 1), ((0, 1, 2, 3), (2,)))

    def test_by_rising_places(self):
        web = made_web(5, [(0, 1, 2), (0, 2, 2), (0, 3, 2), (0, 4, 2)])
        self.assertEqual(near_light(web, 0, 1, 10), ((0, 1, 2, 3), (2, 3, 4)))
        self.assertEqual(near_light(web, 0, 4, 1), ((0, 1, 2, 3), (4,)))
        self.assertEqual(near_light(web, 4, 1, 10), ((0, 1, 2, 3), (2, 3)))

    def test_the_root_s_piece_alone(self):
        web = made_web(7, [(0, 1, 1), (1, 2, 1), (0, 2, 1), (3, 4, 5), (4, 5, 5), (3, 5, 9)])
        self.assertEqual(near_light(web, 0, 1, 1), ((0, 1), (2,)))
        self.assertEqual(near_light(web, 0, 2, 1), ((0, 1), ()))
        self.assertEqual(near_light(web, 3, 1, 1), ((3, 5), ()))
        self.assertEqual(near_light(web, 6, 1, 1), ((), ()))
        self.assertEqual(near_light((1, ()), 0, 1, 1), ((), ()))

    def check(self, web, root, p, q):
        keep, put = near_light(web, root, p, q)
        self.assertEqual(put, slow_put(web, root, p, q), (web, root, p, q))
        ties = set(forest_there(web, root))
        for place in put:
            ties |= slow_ties(web, the_way(web, whole(web), root, place))
        self.assertEqual(keep, tuple(sorted(ties)))
        self.assertTrue(all_whole((keep, put)))
        self.assertIsInstance(put, tuple)
        # Both bounds.
        near = slow_fars(web, whole(web))[root]
        kept = slow_fars(web, keep)[root]
        for place in range(web[0]):
            if near[place] is None:
                self.assertIsNone(kept[place])
            else:
                self.assertLessEqual(q * kept[place], (p + q) * near[place])
        least = kept_length(web, forest_there(web, root))
        self.assertLessEqual(p * kept_length(web, keep), (p + 2 * q) * least)
        self.assertIs(light_right(web, root, p, q, keep, light_paper(web, root, keep)), True)
        return put

    def test_place_by_place_with_both_bounds(self):
        seen = set()
        for web in drawn_webs(60, 8):
            for root in range(web[0]):
                for p, q in SLACKS:
                    seen.add(len(self.check(web, root, p, q)))
        self.assertTrue({0, 1, 2, 3} <= seen)

    def test_the_ways_are_the_first_ones(self):
        for web in drawn_webs(40, 6):
            for root in range(web[0]):
                keep, put = near_light(web, root, 1, 3)
                ties = set(forest_there(web, root))
                for place in put:
                    ties |= slow_ties(web, slow_way(web, whole(web), root, place))
                self.assertEqual(keep, tuple(sorted(ties)))

    def test_great_webs(self):
        webs = great_webs() + [ring_web(24, 10 ** 18), full_web(11, 10 ** 18), drawn_web(Draw(9), 24, 20, 10 ** 18)]
        for web in webs:
            for root in (0, 5, web[0] - 1):
                for p, q in ((1, 1), (10 ** 6, 10 ** 6), (1, 9)):
                    self.check(web, root, p, q)


class PaperTest(unittest.TestCase):
    def test_told_of_any_keep(self):
        asked = ((0, 1, 2, 3, 2), (None, 0, 1, 2, None), (0, 2, 3, 4), ((0, 1, 2, 3, 4),))
        self.assertEqual(light_paper(BOW, 0, (0, 2, 3)), asked)
        for web, keep in webs_and_keeps(30):
            for root in range(web[0]):
                told = light_paper(web, root, keep)
                self.assertTrue(all_whole(told))
                heights, tree, forest, ways = told
                self.assertEqual(heights, roofed(slow_fars(web, whole(web))[root], 10 ** 20))
                there = [slow_way(web, keep, root, place) for place in range(web[0])]
                self.assertEqual(tree, tuple(None if way is None or len(way) == 1 else way[-2] for way in there))
                self.assertEqual((forest, ways), (least_forest(web), forest_paper(web)))

    def test_judged_of_any_keep(self):
        seen = set()
        for web, keep in webs_and_keeps(40):
            for root in range(web[0]):
                paper = light_paper(web, root, keep)
                for p, q in SLACKS:
                    right = light_right(web, root, p, q, keep, paper)
                    self.assertIs(right, slow_light_right(web, root, p, q, keep, paper))
                    seen.add(right)
        self.assertEqual(seen, {True, False})

    def test_great_webs(self):
        for seed, web in enumerate(great_webs()):
            for keep in (whole(web), drawn_keep(Draw(seed), web), least_forest(web)):
                paper = light_paper(web, 3, keep)
                for p, q in ((1, 1), (1, 10 ** 6), (10 ** 6, 10 ** 6)):
                    right = light_right(web, 3, p, q, keep, paper)
                    self.assertIs(right, slow_light_right(web, 3, p, q, keep, paper))


class JudgeTest(unittest.TestCase):
    def test_just_at_the_bounds(self):
        # In the row 4 is 4 far, in the web 2: twice as far. The row is as long as the forest, with all it is 6 to 4.
        row = (0, 2, 3, 4)
        for (p, q), right in (((1, 1), True), ((999999, 10 ** 6), False), ((10 ** 6, 10 ** 6), True), ((2, 1), True)):
            self.assertIs(light_right(BOW, 0, p, q, row, light_paper(BOW, 0, row)), right)
        for (p, q), right in (((4, 1), True), ((5, 1), False), ((400001, 10 ** 5), False), ((1, 1), True)):
            self.assertIs(light_right(BOW, 0, p, q, whole(BOW), light_paper(BOW, 0, whole(BOW))), right)

    def test_the_forest_of_the_root_s_piece_is_what_counts(self):
        web = made_web(5, [(0, 1, 1), (2, 3, 100), (3, 4, 100), (2, 4, 100)])
        self.assertIs(light_right(web, 0, 1, 1, (0,), light_paper(web, 0, (0,))), True)
        self.assertIs(light_right(web, 0, 1, 1, (0, 1), light_paper(web, 0, (0, 1))), False)
        self.assertIs(light_right(web, 2, 1, 1, (0, 1, 2), light_paper(web, 2, (0, 1, 2))), True)

    def test_what_the_tree_has_at_the_root_is_not_looked_at(self):
        heights, tree, forest, ways = light_paper(BOW, 2, whole(BOW))
        for thing in (None, 0, 1, 2, 4, -1, 5, 10 ** 59, -10 ** 59):
            paper = (heights, tree[:2] + (thing,) + tree[3:], forest, ways)
            self.assertIs(light_right(BOW, 2, 1, 1, whole(BOW), paper), True)

    def test_going_round_leads_nowhere(self):
        web = ring_web(4)
        heights, tree, forest, ways = light_paper(web, 0, whole(web))
        for other, right in (((None, 0, 3, 0), True), ((None, 0, 1, 0), True), ((None, 2, 1, 0), False),
                             ((None, 1, 1, 0), False), ((None, 2, 3, 2), False), ((1, 2, 3, 0), False),
                             ((None, 0, 1, 2), False), ((None, None, 3, 0), False), ((None, 0, 0, 0), False)):
            self.assertIs(light_right(web, 0, 1, 1, whole(web), (heights, other, forest, ways)), right, other)

    def test_places_out_of_reach_need_no_way(self):
        web = made_web(3, [(0, 1, 1)])
        for height, right in ((10 ** 20, True), (10 ** 20 - 1, False), (10 ** 59, True), (0, False), (-1, False)):
            paper = ((0, 1, height), (None, 0, None), (0,), ())
            self.assertIs(light_right(web, 0, 1, 1, (0,), paper), right)
        # What hangs together with the root can't be held out of reach.
        self.assertIs(light_right(web, 0, 1, 1, (), ((0, 10 ** 20, 10 ** 20), (None,) * 3, (0,), ())), False)

    def test_one_thing_otherwise_at_each_place(self):
        seen = set()
        for seed, web in enumerate(drawn_webs(30, 5)):
            root = seed % web[0]
            for p, q in ((1, 1), (3, 2)):
                keep = near_light(web, root, p, q)[0]
                paper = light_paper(web, root, keep)
                for other in altered(paper, (0, 1, -1, web[0], 10 ** 59), (None,)):
                    right = light_right(web, root, p, q, keep, other)
                    self.assertIs(right, slow_light_right(web, root, p, q, keep, other), (web, root, p, q, keep, other))
                    seen.add(right)
        self.assertEqual(seen, {True, False})

    def bounds_hold(self, web, root, p, q, keep):
        near, kept = (slow_fars(web, ties)[root] for ties in (whole(web), keep))
        for place in range(web[0]):
            if near[place] is not None and (kept[place] is None or q * kept[place] > (p + q) * near[place]):
                return False
        return p * kept_length(web, keep) <= (p + 2 * q) * kept_length(web, forest_there(web, root))

    def test_what_is_let_by_is_so(self):
        seen = set()
        for web, keep in webs_and_keeps(60):
            for root in range(web[0]):
                for p, q in SLACKS:
                    right = light_right(web, root, p, q, keep, light_paper(web, root, keep))
                    # The told paper has the shortest ways, so it is let by wherever both bounds hold.
                    self.assertIs(right, self.bounds_hold(web, root, p, q, keep))
                    seen.add(right)
        self.assertEqual(seen, {True, False})

    def test_the_forest_with_its_paper(self):
        web = full_web(3)
        heights, tree, forest, ways = light_paper(web, 0, (0, 1))
        self.assertEqual((forest, ways), ((0, 1), ((1, 0, 2),)))
        for other in (((0, 2), ((0, 1, 2),)), ((0, 1, 2), ()), ((0,), ((0, 1), (1, 0, 2))), ((), ()), ((0, 1), ()),
                      ((0, 1), ((2, 0, 1),)), ((1, 0), ((1, 0, 2),)), ((0, 1), ((1, 0, 2), (1, 0, 2)))):
            self.assertIs(light_right(web, 0, 1, 1, (0, 1), (heights, tree) + other), False)

    def test_whatever_tuples(self):
        for web, keep in webs_and_keeps(12):
            heights, tree, forest, ways = light_paper(web, 0, keep)
            papers = [(), ((),) * 3, ((),) * 4, ((),) * 5, (heights, tree, forest), (heights, tree, forest, ways, ())]
            for odd in ODD_TUPLES:
                papers.extend([(odd,) * 4, (odd, tree, forest, ways), (heights, odd, forest, ways), (odd,) * 3])
                papers.extend([(heights, tree, odd, ways), (heights, tree, forest, (odd,) * len(ways)), (odd,) * 400])
                papers.extend([(heights, tree, forest, (odd,)), (heights, tree, odd, (odd,) * len(ways))])
            for paper in papers:
                right = light_right(web, 0, 2, 1, keep, paper)
                self.assertIs(right, slow_light_right(web, 0, 2, 1, keep, paper), paper)


class OwnTest(unittest.TestCase):
    def test_the_same_question_has_the_same_answer(self):
        for web in (BOW, ring_web(8), great_webs()[0]):
            before = tuple(web)
            keep = stands(whole(web), (1,))
            self.assertEqual(near_light(web, 2, 1, 3), near_light(web, 2, 1, 3))
            self.assertEqual(light_paper(web, 2, keep), light_paper(web, 2, keep))
            self.assertEqual(web, before)


if __name__ == "__main__":
    unittest.main()
