import unittest

from tests.helper import (
    Draw, all_whole, drawn_levels, drawn_webs, full_web, great_webs, levels_of, no_levels, ring_web, slow_fars,
    ways_between, slow_length,
)
from thinways.errors import NoLevels, ThinError
from thinways.levels import bunch, climb, pivot
from thinways.webs import made_web, whole

ROW = made_web(5, [(0, 1, 1), (1, 2, 1), (2, 3, 1), (3, 4, 1)])
EVERY = (0, 1, 2, 3, 4)


def slow_top(levels, place):
    return [number for number, level in enumerate(levels) if place in level][-1]


def as_near(lengths, length):
    return any(other is not None and other <= length for other in lengths)


def slow_bunch(web, levels, v):
    row = slow_fars(web, whole(web))[v]
    told = []
    for w in range(web[0]):
        top = slow_top(levels, w)
        behind = levels[top + 1] if top + 1 < len(levels) else ()
        if row[w] is not None and not as_near([row[place] for place in behind], row[w]):
            told.append((w, row[w]))
    return tuple(told)


def slow_pivot(web, levels, i, v):
    row = slow_fars(web, whole(web))[v]
    there = [place for place in levels[i] if row[place] is not None]
    if not there:
        return None
    least = min(row[place] for place in there)
    there = [place for place in there if row[place] == least]
    top = max(slow_top(levels, place) for place in there)
    return min(place for place in there if slow_top(levels, place) == top)


def slow_climb(web, levels, u, v):
    fars = slow_fars(web, whole(web))
    if fars[u][v] is None:
        return None
    told = [(u, u, v, 0)]
    while told[-1][0] not in [place for place, far in slow_bunch(web, levels, told[-1][2])]:
        w, start, end, length = told[-1]
        w = slow_pivot(web, levels, slow_top(levels, w) + 1, end)
        told.append((w, end, start, fars[w][end]))
    return tuple(told)


def webs_and_levels(count, most=6):
    return [(web, levels) for seed, web in enumerate(drawn_webs(count, most)) for levels in levels_of(web, seed)]


def great_levels():
    told = []
    for seed, web in enumerate(great_webs()):
        told.extend([(web, drawn_levels(Draw(seed + many), 24, many)) for many in range(1, 7)])
        told.append((web, (tuple(range(24)), tuple(range(0, 24, 3)), (0, 12), ())))
    return told


class BunchTest(unittest.TestCase):
    def test_those_nearer_than_the_level_behind(self):
        levels = (EVERY, (0, 4), (4,))
        self.assertEqual(bunch(ROW, levels, 0), ((0, 0), (4, 4)))
        self.assertEqual(bunch(ROW, levels, 1), ((0, 1), (1, 0), (4, 3)))
        # The place 0 is out: 4, of the level behind it, is as near.
        self.assertEqual(bunch(ROW, levels, 2), ((1, 1), (2, 0), (3, 1), (4, 2)))
        self.assertEqual(bunch(ROW, levels, 3), ((3, 0), (4, 1)))
        self.assertEqual(bunch(ROW, levels, 4), ((4, 0),))

    def test_as_near_is_out(self):
        web = made_web(3, [(0, 1, 5), (0, 2, 5)])
        self.assertEqual(bunch(web, ((0, 1, 2), (2,)), 0), ((0, 0), (2, 5)))
        web = made_web(3, [(0, 1, 4), (0, 2, 5)])
        self.assertEqual(bunch(web, ((0, 1, 2), (2,)), 0), ((0, 0), (1, 4), (2, 5)))
        web = made_web(3, [(0, 1, 6), (0, 2, 5)])
        self.assertEqual(bunch(web, ((0, 1, 2), (2,)), 0), ((0, 0), (2, 5)))

    def test_one_level_and_empty_ones(self):
        for levels in ((EVERY,), (EVERY, ()), (EVERY, (), (), (), (), ()), (EVERY,) * 6):
            self.assertEqual(bunch(ROW, levels, 1), ((0, 1), (1, 0), (2, 1), (3, 2), (4, 3)))

    def test_where_no_way_leads(self):
        web = made_web(4, [(0, 1, 7), (2, 3, 2)])
        self.assertEqual(bunch(web, ((0, 1, 2, 3), (2,)), 0), ((0, 0), (1, 7)))
        self.assertEqual(bunch(web, ((0, 1, 2, 3), (2,)), 3), ((2, 2), (3, 0)))
        self.assertEqual(bunch((1, ()), ((0,),), 0), ((0, 0),))
        self.assertEqual(bunch((3, ()), ((0, 1, 2), (1,)), 1), ((1, 0),))

    def test_place_by_place(self):
        for web, levels in webs_and_levels(40, 7):
            for v in range(web[0]):
                told = bunch(web, levels, v)
                self.assertEqual(told, slow_bunch(web, levels, v), (web, levels, v))
                self.assertIn((v, 0), told)
                self.assertTrue(all_whole(told))
                self.assertIsInstance(told, tuple)

    def test_by_all_ways(self):
        for web, levels in webs_and_levels(12, 5):
            for v in range(web[0]):
                ways = [ways_between(web, whole(web), w, v) for w in range(web[0])]
                lengths = [[slow_length(web, way) for way in row] for row in ways]
                asked = []
                for w in range(web[0]):
                    top = slow_top(levels, w)
                    behind = [min(lengths[place]) for place in (levels + ((),))[top + 1] if lengths[place]]
                    if lengths[w] and all(min(lengths[w]) < length for length in behind):
                        asked.append((w, min(lengths[w])))
                self.assertEqual(bunch(web, levels, v), tuple(asked))

    def test_great_webs(self):
        for web, levels in great_levels():
            for v in (0, 5, 13, 23):
                self.assertEqual(bunch(web, levels, v), slow_bunch(web, levels, v))


class PivotTest(unittest.TestCase):
    def test_the_nearest(self):
        levels = (EVERY, (0, 4), (4,))
        self.assertEqual([pivot(ROW, levels, 0, v) for v in EVERY], [0, 1, 2, 3, 4])
        self.assertEqual([pivot(ROW, levels, 1, v) for v in EVERY], [0, 0, 4, 4, 4])
        self.assertEqual([pivot(ROW, levels, 2, v) for v in EVERY], [4, 4, 4, 4, 4])

    def test_of_several_one_of_the_greatest_top_then_the_least(self):
        web = made_web(5, [(0, 1, 3), (0, 2, 3), (0, 3, 3), (0, 4, 3)])
        self.assertEqual(pivot(web, (EVERY, (1, 2, 3, 4)), 1, 0), 1)
        self.assertEqual(pivot(web, (EVERY, (1, 2, 3, 4), (2, 3, 4)), 1, 0), 2)
        self.assertEqual(pivot(web, (EVERY, (1, 2, 3, 4), (2, 3, 4), (3, 4)), 1, 0), 3)
        self.assertEqual(pivot(web, (EVERY, (1, 2, 3, 4), (2, 3, 4), (3, 4), (4,)), 1, 0), 4)
        # The nearest goes ahead of the greatest top.
        web = made_web(3, [(0, 1, 3), (0, 2, 4)])
        self.assertEqual(pivot(web, ((0, 1, 2), (1, 2), (2,)), 1, 0), 1)

    def test_none_where_no_way_leads(self):
        self.assertIsNone(pivot(ROW, (EVERY, ()), 1, 2))
        web = made_web(4, [(0, 1, 7), (2, 3, 2)])
        self.assertIsNone(pivot(web, ((0, 1, 2, 3), (2,)), 1, 0))
        self.assertEqual(pivot(web, ((0, 1, 2, 3), (2,)), 1, 3), 2)

    def check(self, web, levels, places):
        for v in places:
            bunched = [w for w, far in bunch(web, levels, v)]
            for i in range(len(levels)):
                told = pivot(web, levels, i, v)
                self.assertEqual(told, slow_pivot(web, levels, i, v), (web, levels, i, v))
                self.assertTrue(told is None or told in bunched)
                self.assertTrue(all_whole(told))

    def test_place_by_place_and_in_the_bunch(self):
        for web, levels in webs_and_levels(30, 7):
            self.check(web, levels, range(web[0]))

    def test_great_webs(self):
        for web, levels in great_levels():
            self.check(web, levels, (0, 11, 23))


class ClimbTest(unittest.TestCase):
    def test_step_by_step(self):
        levels = (EVERY, (0, 4), (4,))
        self.assertEqual(climb(ROW, levels, 2, 3), ((2, 2, 3, 0), (4, 3, 2, 1)))
        self.assertEqual(climb(ROW, levels, 3, 2), ((3, 3, 2, 0),))
        self.assertEqual(climb(ROW, levels, 1, 0), ((1, 1, 0, 0), (0, 0, 1, 0)))
        self.assertEqual(climb(ROW, levels, 1, 4), ((1, 1, 4, 0), (4, 4, 1, 0)))
        self.assertEqual(climb(ROW, levels, 0, 3), ((0, 0, 3, 0), (4, 3, 0, 1)))
        web = made_web(4, [(0, 1, 2), (0, 2, 2), (1, 3, 1)])
        self.assertEqual(climb(web, ((0, 1, 2, 3), (2, 3), (3,)), 0, 1), ((0, 0, 1, 0), (3, 1, 0, 1)))
        # Three levels, three steps: 0 goes out at 1 by 2, this one at 0 by 3, which is in all bunches.
        web = made_web(4, [(0, 1, 2), (1, 2, 2), (0, 3, 4)])
        asked = ((0, 0, 1, 0), (2, 1, 0, 2), (3, 0, 1, 4))
        self.assertEqual(climb(web, ((0, 1, 2, 3), (2, 3), (3,)), 0, 1), asked)

    def test_to_itself_and_to_nowhere(self):
        for levels in ((EVERY,), (EVERY, (1,), ()), (EVERY,) * 6):
            for place in EVERY:
                self.assertEqual(climb(ROW, levels, place, place), ((place, place, place, 0),))
        web = made_web(4, [(0, 1, 7), (2, 3, 2)])
        self.assertIsNone(climb(web, ((0, 1, 2, 3), (2,)), 0, 2))
        self.assertIsNone(climb(web, ((0, 1, 2, 3),), 3, 1))

    def check(self, web, levels, starts):
        fars = slow_fars(web, whole(web))
        for u in starts:
            for v in range(web[0]):
                told = climb(web, levels, u, v)
                self.assertEqual(told, slow_climb(web, levels, u, v), (web, levels, u, v))
                self.assertTrue(all_whole(told))
                self.assertEqual(told is None, fars[u][v] is None)
                if told is not None:
                    self.assertIsInstance(told, tuple)
                    self.assertLessEqual(len(told), len(levels))
                    for j, (w, start, end, far) in enumerate(told):
                        self.assertLessEqual(far, j * fars[u][v])
                        self.assertEqual((far, start, end), (fars[w][start],) + ((u, v), (v, u))[j % 2])

    def test_at_most_so_many_steps_each_within_its_bound(self):
        for web, levels in webs_and_levels(24, 7):
            self.check(web, levels, range(web[0]))

    def test_great_webs(self):
        for web, levels in great_levels()[::3]:
            self.check(web, levels, (0, 23))

    def test_some_climbs_are_long(self):
        many = [len(climb(ring_web(9, 2), drawn_levels(Draw(seed), 9, 5), 0, 4)) for seed in range(60)]
        self.assertGreater(max(many), 2)


class RefusalTest(unittest.TestCase):
    def test_no_levels(self):
        for web in (full_web(3), ROW, great_webs()[0], made_web(4, [(0, 1, 1)])):
            for levels in no_levels(web[0]):
                for ask in (lambda: bunch(web, levels, 0), lambda: pivot(web, levels, 0, 0),
                            lambda: climb(web, levels, 0, 1), lambda: climb(web, levels, 2, 2)):
                    with self.assertRaises(NoLevels) as caught:
                        ask()
                    self.assertIsInstance(caught.exception, ThinError)

    def test_six_are_still_levels(self):
        self.assertEqual(bunch(ROW, (EVERY,) * 6, 0)[0], (0, 0))
        self.assertEqual(pivot(ROW, (EVERY,) * 6, 5, 3), 3)


class OwnTest(unittest.TestCase):
    def test_the_same_question_has_the_same_answer(self):
        for web, levels in great_levels()[:12]:
            before = (tuple(web), tuple(levels))
            for ask in (lambda: bunch(web, levels, 3), lambda: pivot(web, levels, 0, 3),
                        lambda: climb(web, levels, 3, 9)):
                self.assertEqual(ask(), ask())
            self.assertEqual((web, levels), before)


if __name__ == "__main__":
    unittest.main()
