import unittest

from tests.helper import (
    NO_TIMES, ODD_TUPLES, Draw, all_whole, altered, drawn_keep, drawn_levels, drawn_webs, full_web, great_webs,
    is_number, levels_of, no_levels, outside, ring_web, slow_fars, slow_led, slow_length, slow_of_times, slow_ties,
    slow_way, stands, ways_between,
)
from thinways.clusters import level_keep, level_paper, trees_right
from thinways.errors import NoLevels, NoTimes, ThinError
from thinways.levels import bunch
from thinways.webs import made_web, whole

STAR = made_web(4, [(0, 1, 3), (0, 2, 3), (1, 2, 4), (0, 3, 9), (2, 3, 5)])
EVERY = (0, 1, 2, 3)


def members(web, levels, w):
    """The cluster of w, by the bunches."""
    return [v for v in range(web[0]) if w in [place for place, far in bunch(web, levels, v)]]


def slow_keep(web, levels):
    ties = set()
    for w in range(web[0]):
        for v in members(web, levels, w):
            ties |= slow_ties(web, slow_way(web, whole(web), w, v))
    return tuple(sorted(ties))


def slow_trees(web, levels):
    told = []
    for w in range(web[0]):
        tree = [None] * web[0]
        for v in members(web, levels, w):
            if v != w:
                tree[v] = slow_way(web, whole(web), w, v)[-2]
        told.append((w, tuple(tree)))
    return tuple(told)


def slow_sides(web, levels, keep):
    fars = slow_fars(web, whole(web))
    told = []
    for tie in outside(web, keep):
        a, b, length = web[1][tie]
        roots = [w for w in range(web[0]) if a in members(web, levels, w) and b in members(web, levels, w)]
        least = min(fars[w][a] + fars[w][b] for w in roots)
        told.append([w for w in roots if fars[w][a] + fars[w][b] == least][0])
    return tuple(told)


def slow_rooted(web, pair):
    if not isinstance(pair, tuple) or len(pair) != 2 or not is_number(pair[0]) or not 0 <= pair[0] < web[0]:
        return False
    root, tree = pair
    if not isinstance(tree, tuple) or len(tree) != web[0] or tree[root] is not None:
        return False
    return all(ahead is None or (is_number(ahead) and 0 <= ahead < web[0]) for ahead in tree)


def slow_trees_right(web, keep, t, paper):
    if len(paper) != 2 or not all(isinstance(part, tuple) for part in paper):
        return False
    trees, sides = paper
    if not all(slow_rooted(web, pair) for pair in trees) or len(sides) != len(outside(web, keep)):
        return False
    roots = [root for root, tree in trees]
    if roots != sorted(set(roots)):
        return False
    for tie, side in zip(outside(web, keep), sides):
        if not is_number(side) or side not in roots:
            return False
        a, b, length = web[1][tie]
        one, other = (slow_led(web, keep, trees[roots.index(side)][1], side, end) for end in (a, b))
        if one is None or other is None or one + other > t * length:
            return False
    return True


def small(count, most):
    return [(web, levels) for seed, web in enumerate(drawn_webs(count, most)) for levels in levels_of(web, seed)]


def great_levels():
    told = []
    for seed, web in enumerate(great_webs() + [full_web(11, 10 ** 18), ring_web(24, 10 ** 18)]):
        told.extend([(web, drawn_levels(Draw(seed + many), web[0], many)) for many in range(1, 7)])
        told.append((web, (tuple(range(web[0])), tuple(range(0, web[0], 3)), (0, 9), ())))
    return told


class KeepTest(unittest.TestCase):
    def test_ties_on_the_ways_to_the_places_of_clusters(self):
        # Ties 0: 0-1, 1: 0-2, 2: 0-3, 3: 1-2, 4: 2-3. With one level all ways are kept; tie 2 is on none.
        self.assertEqual(level_keep(STAR, (EVERY,)), (0, 1, 3, 4))
        # None but 2 is nearer to another place, which is 3, than 0 is.
        self.assertEqual(level_keep(STAR, (EVERY, (0,))), (0, 1, 4))
        self.assertEqual(level_keep(STAR, (EVERY, (0, 1))), (0, 1, 3, 4))
        self.assertEqual(level_keep(full_web(4), (EVERY, (2,))), (1, 3, 5))
        self.assertEqual(level_keep((3, ()), ((0, 1, 2), (1,))), ())
        self.assertEqual(level_keep((1, ()), ((0,),)), ())

    def test_way_by_way(self):
        for web, levels in small(40, 6):
            keep = level_keep(web, levels)
            self.assertEqual(keep, slow_keep(web, levels), (web, levels))
            self.assertTrue(all_whole(keep))
            self.assertIsInstance(keep, tuple)

    def test_places_on_the_ways_are_in_the_cluster(self):
        for web, levels in small(16, 5):
            fars = slow_fars(web, whole(web))
            for w in range(web[0]):
                there = members(web, levels, w)
                for v in there:
                    for way in ways_between(web, whole(web), w, v):
                        if slow_length(web, way) == fars[w][v]:
                            self.assertTrue(set(way) <= set(there))

    def test_of_times_for_one_to_six_levels(self):
        seen = set()
        for web, levels in small(40, 8) + great_levels():
            keep = level_keep(web, levels)
            self.assertTrue(slow_of_times(web, keep, 2 * len(levels) - 1))
            seen.add((len(levels), slow_of_times(web, keep, 1)))
        self.assertTrue({(many, True) for many in range(1, 7)} <= seen)
        self.assertIn((2, False), seen)

    def test_one_level_keeps_all_ways_as_they_are(self):
        for web in drawn_webs(40, 7):
            fars = slow_fars(web, level_keep(web, (tuple(range(web[0])),)))
            self.assertEqual(fars, slow_fars(web, whole(web)))


class PaperTest(unittest.TestCase):
    def test_told(self):
        levels = (EVERY, (0,))
        trees = ((0, (None, 0, 0, 2)), (1, (None,) * 4), (2, (None, None, None, 2)), (3, (None,) * 4))
        self.assertEqual(level_paper(STAR, levels), (trees, (0, 0)))
        self.assertEqual(level_paper((2, ()), ((0, 1), ())), (((0, (None, None)), (1, (None, None))), ()))

    def test_trees_within_clusters_and_the_first_of_the_best_sides(self):
        for web, levels in small(30, 6):
            told = level_paper(web, levels)
            keep = level_keep(web, levels)
            self.assertEqual(told, (slow_trees(web, levels), slow_sides(web, levels, keep)), (web, levels))
            self.assertTrue(all_whole(told))

    def test_let_by_for_its_times(self):
        for web, levels in small(40, 8) + great_levels():
            keep = level_keep(web, levels)
            told = level_paper(web, levels)
            self.assertTrue(all_whole(told))
            self.assertIs(trees_right(web, keep, 2 * len(levels) - 1, told), True)

    def test_judged_for_any_times(self):
        seen = set()
        for web, levels in small(30, 7):
            keep = level_keep(web, levels)
            paper = level_paper(web, levels)
            for t in (1, 2, 3, 4, 99):
                right = trees_right(web, keep, t, paper)
                self.assertIs(right, slow_trees_right(web, keep, t, paper))
                seen.add((t, right))
                if right:
                    self.assertTrue(slow_of_times(web, keep, t))
        self.assertTrue({(1, True), (1, False), (2, True), (2, False), (99, True)} <= seen)


class JudgeTest(unittest.TestCase):
    def test_just_t_times(self):
        # The tie 0-1 of 4 isn't kept; both its ends lead to 2, 5 and 7 long: just three times 4.
        web = made_web(3, [(0, 1, 4), (0, 2, 5), (1, 2, 7)])
        paper = (((2, (2, 2, None)),), (2,))
        self.assertIs(trees_right(web, (1, 2), 3, paper), True)
        self.assertIs(trees_right(web, (1, 2), 2, paper), False)
        web = made_web(3, [(0, 1, 4), (0, 2, 5), (1, 2, 8)])
        self.assertIs(trees_right(web, (1, 2), 3, paper), False)

    def test_what_both_ways_share_counts_twice(self):
        # From 0 and 1 over 2 to 3: 1 + 6 and 1 + 6, fourteen times the tie.
        web = made_web(4, [(0, 1, 1), (0, 2, 1), (1, 2, 1), (2, 3, 6)])
        paper = (((3, (2, 2, 3, None)),), (3,))
        self.assertIs(trees_right(web, (1, 2, 3), 14, paper), True)
        self.assertIs(trees_right(web, (1, 2, 3), 13, paper), False)

    def test_a_root_that_is_an_end(self):
        web = made_web(3, [(0, 1, 4), (0, 2, 5), (1, 2, 7)])
        self.assertIs(trees_right(web, (1, 2), 3, (((0, (None, 2, 0)),), (0,))), True)
        self.assertIs(trees_right(web, (1, 2), 3, (((0, (None, 0, 0)),), (0,))), False)

    def test_going_round_leads_nowhere(self):
        web = full_web(4)
        for tree in ((None, 2, 1, 0), (None, 2, 3, 1), (None, 1, 0, 0), (None, 2, 3, 2)):
            self.assertIs(trees_right(web, (0, 1, 2, 4, 5), 99, (((0, tree),), (0,))), False)
        self.assertIs(trees_right(web, (0, 1, 2, 4, 5), 99, (((0, (None, 3, 0, 2)),), (0,))), True)

    def test_by_kept_ties_alone(self):
        web = full_web(3)
        self.assertIs(trees_right(web, (0, 1), 2, (((0, (None, 0, 0)),), (0,))), True)
        self.assertIs(trees_right(web, (0, 1), 2, (((1, (1, None, 1)),), (1,))), False)
        self.assertIs(trees_right(web, (0,), 99, (((0, (None, 0, 0)),), (0, 0))), False)

    def test_something_at_the_root(self):
        web = full_web(3)
        for thing in (0, 1, 2, -1, 3, 10 ** 59):
            self.assertIs(trees_right(web, (0, 1), 2, (((0, (thing, 0, 0)),), (0,))), False)

    def test_trees_that_no_side_names(self):
        # They are held to their form alone.
        web = full_web(3)
        good = (0, (None, 0, 0))
        for other, right in (((1, (None, None, None)), True), ((1, (2, None, 1)), True), ((2, (2, 2, None)), True),
                             ((2, (0, 1, None)), True), ((1, (None, 0, None)), False), ((1, (3, None, None)), False),
                             ((1, (-1, None, None)), False), ((1, (None, None)), False), ((1, (None,) * 4), False),
                             ((3, (None,) * 3), False), ((-1, (None,) * 3), False), ((0, (None, 0, 0)), False)):
            self.assertIs(trees_right(web, (0, 1), 2, ((good, other), (0,))), right, other)
        self.assertIs(trees_right(web, (0, 1), 2, (((1, (None,) * 3), good), (0,))), False)
        self.assertIs(trees_right(web, (0, 1, 2), 1, ((), ())), True)
        self.assertIs(trees_right(web, (0, 1), 2, ((), (0,))), False)

    def test_one_thing_otherwise_at_each_place(self):
        seen = set()
        for seed, web in enumerate(drawn_webs(20, 5)):
            for levels in levels_of(web, seed)[seed % 3::3]:
                keep = level_keep(web, levels)
                t = 2 * len(levels) - 1
                for paper in altered(level_paper(web, levels), (0, 1, -1, web[0], 10 ** 59), (None,)):
                    right = trees_right(web, keep, t, paper)
                    self.assertIs(right, slow_trees_right(web, keep, t, paper), (web, keep, t, paper))
                    seen.add(right)
        self.assertEqual(seen, {True, False})

    def test_with_one_tie_less_what_is_let_by_is_so(self):
        seen = set()
        for seed, web in enumerate(drawn_webs(30, 6)):
            for levels in levels_of(web, seed)[seed % 3::3]:
                paper = level_paper(web, levels)
                keep = level_keep(web, levels)
                for tie in keep:
                    fewer = stands(keep, (tie,))
                    more = dict(zip(outside(web, keep), paper[1]))
                    for root in web[1][tie][:2]:
                        sides = tuple(more.get(other, root) for other in outside(web, fewer))
                        right = trees_right(web, fewer, 5, (paper[0], sides))
                        self.assertIs(right, slow_trees_right(web, fewer, 5, (paper[0], sides)))
                        self.assertTrue(not right or slow_of_times(web, fewer, 5))
                        seen.add(right)
        self.assertIn(False, seen)

    def test_of_any_keep(self):
        seen = set()
        for seed, web in enumerate(drawn_webs(40)):
            keep = drawn_keep(Draw(seed), web)
            trees = tuple((w, tuple(None if way is None or len(way) == 1 else way[-2] for way in ways))
                          for w, ways in enumerate([[slow_way(web, keep, w, v) for v in range(web[0])]
                                                    for w in range(web[0])]))
            for shift in (0, 1, 2):
                sides = tuple((web[1][tie][0] + shift) % web[0] for tie in outside(web, keep))
                for t in (1, 2, 3, 9, 99):
                    right = trees_right(web, keep, t, (trees, sides))
                    self.assertIs(right, slow_trees_right(web, keep, t, (trees, sides)))
                    seen.add(right)
                    if right:
                        self.assertTrue(slow_of_times(web, keep, t))
        self.assertEqual(seen, {True, False})

    def test_whatever_tuples(self):
        for web in drawn_webs(12) + [full_web(3), great_webs()[0]]:
            n = web[0]
            for keep in (whole(web), whole(web)[1:]):
                many = len(web[1]) - len(keep)
                papers = [(), ((),), ((), (), ()), ((), ()), (((),), ()), ((((),),), ()), (((0,),), ())]
                papers.append((((0, (), ()),), ()))
                for odd in ODD_TUPLES:
                    papers.extend([(odd, odd), (((0, odd),), odd), (((0, (None,) * n),), odd), (odd,), (odd,) * 3])
                    papers.extend([(((0, (None,) + odd),), (0,) * many), ((odd,) * 3, ()), (((0, odd, odd),), (0,))])
                for root in (-1, 0, n, 10 ** 59, -10 ** 59):
                    papers.extend([(((root, (None,) * n),), (root,) * many), (((root, (None,) * n),), (0,) * many)])
                    papers.extend([((((0, (None,) * n),) * 2), (root,)), (((0, (None,) * n),), (root,) * 400)])
                for paper in papers:
                    shaped = len(paper) == 2 and all(isinstance(pair, tuple) for pair in paper[0])
                    asked = shaped and slow_trees_right(web, keep, 3, paper)
                    self.assertIs(trees_right(web, keep, 3, paper), asked, (web, keep, paper))


class RefusalTest(unittest.TestCase):
    def test_no_levels(self):
        for web in (full_web(3), STAR, great_webs()[0]):
            for levels in no_levels(web[0]):
                for ask in (lambda: level_keep(web, levels), lambda: level_paper(web, levels)):
                    with self.assertRaises(NoLevels) as caught:
                        ask()
                    self.assertIsInstance(caught.exception, ThinError)

    def test_no_times(self):
        for t in NO_TIMES:
            for paper in (level_paper(STAR, (EVERY, (0,))), (), ((), ())):
                with self.assertRaises(NoTimes):
                    trees_right(STAR, (0, 1, 3), t, paper)


class OwnTest(unittest.TestCase):
    def test_the_same_question_has_the_same_answer(self):
        for web, levels in great_levels()[:12]:
            before = (tuple(web), tuple(levels))
            for ask in (lambda: level_keep(web, levels), lambda: level_paper(web, levels)):
                self.assertEqual(ask(), ask())
            self.assertEqual((web, levels), before)


if __name__ == "__main__":
    unittest.main()
