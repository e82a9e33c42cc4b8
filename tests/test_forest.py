import unittest

from tests.helper import (
    ODD_TUPLES, all_keeps, all_whole, altered, by_one, drawn_webs, full_web, great_webs, outside, ring_web,
    slow_length, slow_pieces, slow_rings, slow_ties, slow_way, ways_between,
)
from thinways.forest import forest_paper, forest_right, least_forest
from thinways.rule import ring_rule
from thinways.webs import kept_length, made_web, whole


def slow_forest(web):
    kept = []
    for length, tie in sorted((tie[2], number) for number, tie in enumerate(web[1])):
        if slow_pieces(web, kept + [tie]) < slow_pieces(web, kept):
            kept.append(tie)
    return tuple(sorted(kept))


def key(web, tie):
    return (web[1][tie][2], tie)


def slow_way_ahead(web, keep, tie, way):
    a, b, length = web[1][tie]
    if way not in ways_between(web, keep, a, b):
        return False
    return all(key(web, other) < key(web, tie) for other in slow_ties(web, way))


def slow_forest_right(web, told):
    if len(told) != 2 or told[0] not in all_keeps(web) or slow_rings(web, told[0]):
        return False
    keep, ways = told
    ties = outside(web, keep)
    return len(ways) == len(ties) and all(slow_way_ahead(web, keep, tie, way) for tie, way in zip(ties, ways))


class LeastForestTest(unittest.TestCase):
    def test_by_length_then_by_number(self):
        web = made_web(4, [(0, 1, 9), (0, 2, 1), (1, 2, 2), (2, 3, 5), (1, 3, 4)])
        # Ties 0: 0-1, 1: 0-2, 2: 1-2, 3: 1-3, 4: 2-3.
        self.assertEqual(least_forest(web), (1, 2, 3))
        self.assertEqual(forest_paper(web), ((0, 2, 1), (2, 1, 3)))
        self.assertEqual(least_forest(full_web(4)), (0, 1, 2))
        self.assertEqual(least_forest(ring_web(5)), (0, 1, 2, 3))
        self.assertEqual(forest_paper(ring_web(5)), ((3, 2, 1, 0, 4),))

    def test_webs_in_pieces_and_without_ties(self):
        self.assertEqual((least_forest((1, ())), forest_paper((1, ()))), ((), ()))
        self.assertEqual((least_forest((24, ())), forest_paper((24, ()))), ((), ()))
        web = made_web(7, [(0, 1, 1), (1, 2, 1), (0, 2, 1), (4, 5, 7), (4, 6, 8), (5, 6, 9)])
        self.assertEqual(least_forest(web), (0, 1, 3, 4))
        self.assertEqual(forest_paper(web), ((1, 0, 2), (5, 4, 6)))

    def test_no_keep_in_which_the_pieces_hang_together_is_shorter(self):
        for web in drawn_webs(48, 5):
            forest = least_forest(web)
            self.assertEqual(forest, slow_forest(web))
            self.assertTrue(all_whole(forest))
            together = slow_pieces(web, whole(web))
            self.assertEqual(slow_pieces(web, forest), together)
            self.assertEqual(slow_rings(web, forest), [])
            fit = [keep for keep in all_keeps(web) if slow_pieces(web, keep) == together]
            self.assertEqual(kept_length(web, forest), min(kept_length(web, keep) for keep in fit))

    def test_the_paper_has_the_ways_in_the_forest(self):
        for web in drawn_webs(60) + great_webs():
            forest = least_forest(web)
            self.assertEqual(forest, slow_forest(web))
            paper = forest_paper(web)
            self.assertTrue(all_whole(paper))
            self.assertEqual(len(paper), len(outside(web, forest)))
            for tie, way in zip(outside(web, forest), paper):
                a, b, length = web[1][tie]
                self.assertEqual(way, slow_way(web, forest, a, b))
                for other in slow_ties(web, way):
                    self.assertLess(key(web, other), key(web, tie))
            self.assertIs(forest_right(web, (forest, paper)), True)


class WithinTheRuleTest(unittest.TestCase):
    def test_within_the_rules_keep_for_every_t(self):
        beyond = 0
        for web in drawn_webs(60, 7) + great_webs():
            forest = least_forest(web)
            for t in (1, 2, 3, 5, 99):
                keep = ring_rule(web, t)[0]
                self.assertTrue(set(forest) <= set(keep))
                for tie in [tie for tie in keep if tie not in forest]:
                    a, b, length = web[1][tie]
                    beyond = beyond + 1
                    self.assertLess(t * length, slow_length(web, slow_way(web, forest, a, b)))
        self.assertGreater(beyond, 100)


class RightTest(unittest.TestCase):
    def test_each_keep_with_its_own_ways(self):
        for web in drawn_webs(32, 5):
            forest = least_forest(web)
            for keep in all_keeps(web):
                ends = [web[1][tie] for tie in outside(web, keep)]
                ways = tuple(slow_way(web, keep, a, b) for a, b, length in ends)
                if None not in ways:
                    self.assertIs(forest_right(web, (keep, ways)), keep == forest, (web, keep))

    def test_one_thing_otherwise_at_each_place(self):
        for web in drawn_webs(40, 5):
            for paper in altered((least_forest(web), forest_paper(web))):
                right = forest_right(web, paper)
                self.assertIs(right, slow_forest_right(web, paper), (web, paper))
                if right:
                    self.assertEqual(paper[0], least_forest(web))

    def test_ties_behind_and_as_long(self):
        web = full_web(3)
        self.assertIs(forest_right(web, ((0, 1), ((1, 0, 2),))), True)
        self.assertIs(forest_right(web, ((0, 1), ((2, 0, 1),))), False)
        self.assertIs(forest_right(web, ((0, 2), ((0, 1, 2),))), False)
        self.assertIs(forest_right(web, ((1, 2), ((0, 2, 1),))), False)
        # The tie outside is the longest, whatever its number.
        web = made_web(3, [(0, 1, 3), (0, 2, 2), (1, 2, 2)])
        self.assertIs(forest_right(web, ((1, 2), ((0, 2, 1),))), True)
        self.assertIs(forest_right(web, ((0, 1), ((1, 0, 2),))), False)

    def test_a_keep_with_a_ring_or_without_a_way(self):
        web = full_web(3)
        self.assertIs(forest_right(web, ((0, 1, 2), ())), False)
        self.assertIs(forest_right(web, ((0,), ((0, 1), (1, 0)))), False)
        self.assertIs(forest_right(web, ((), ())), False)
        self.assertIs(forest_right((3, ()), ((), ())), True)
        self.assertIs(forest_right((3, ()), ((), ((0, 1),))), False)

    def test_a_keep_that_is_none(self):
        for web in (full_web(4), ring_web(6), great_webs()[1]):
            keep = least_forest(web)
            paper = forest_paper(web)
            for other in ODD_TUPLES + (keep[::-1], keep + keep[-1:], keep[:-1], keep + (len(web[1]),), (-1,) + keep,
                                       (False,) + keep[1:]):
                self.assertIs(forest_right(web, (other, paper)), False)

    def test_whatever_tuples(self):
        for web in drawn_webs(12, 5):
            keep = least_forest(web)
            many = len(outside(web, keep))
            papers = [(), ((),), (keep,), (keep, (), ()), ((), ()), (keep, ()), (keep, ((),) * many)]
            for odd in ODD_TUPLES:
                papers.extend([(odd, (odd,) * many), (keep, (odd,) * many), (keep, (odd,) * 400), (odd, ()), (odd,)])
            for paper in papers:
                self.assertIs(forest_right(web, paper), slow_forest_right(web, paper), paper)


class OwnTest(unittest.TestCase):
    def test_the_same_question_has_the_same_answer(self):
        for web in (full_web(6), by_one(great_webs()[3]), great_webs()[3]):
            before = (web[0], tuple(tuple(tie) for tie in web[1]))
            for ask in (lambda: least_forest(web), lambda: forest_paper(web)):
                first = ask()
                self.assertIsInstance(first, tuple)
                self.assertEqual(ask(), first)
            self.assertEqual(web, before)


if __name__ == "__main__":
    unittest.main()
