import unittest

from tests.helper import (
    ODD_TUPLES, Draw, FallRefusals, all_keeps, all_whole, altered, breaks_at, drawn_keep, drawn_webs, ends_far,
    fallen_sets, full_web, great_webs_of_twelve, outside, ring_web, slow_fall_right, slow_of_times, slow_tree_right,
    slow_within, stands, ways_between, webs_and_keeps,
)
from thinways.falls import falls_right, falls_told
from thinways.webs import made_web, tie_between, whole

# 0 and 1 tied straight and by three ways round, 2, 4 and 6 long.
ROUND = made_web(5, [(0, 1, 1), (0, 2, 1), (1, 2, 1), (0, 3, 2), (1, 3, 2), (0, 4, 3), (1, 4, 3)])


def slow_falls_right(web, keep, t, f, told):
    ties = outside(web, keep)
    if told[:1] == ("bears",) and len(told) == 2:
        if not isinstance(told[1], tuple) or len(told[1]) != len(ties):
            return False
        return all(slow_tree_right(web, keep, tie, t, f, (), tree) for tie, tree in zip(ties, told[1]))
    if told[:1] == ("breaks",) and len(told) == 4:
        return told[1] in ties and slow_fall_right(web, keep, told[1], t, f, told[2], told[3])
    return False


def small_keeps():
    told = []
    for web in drawn_webs(24, 4):
        told.extend([(web, keep) for keep in all_keeps(web)])
    return told + webs_and_keeps(24, 6)


class ToldTest(unittest.TestCase):
    def test_a_tree_of_ways(self):
        keep = (1, 2, 3, 4, 5, 6)
        ties = [tie_between(ROUND, 0, 1), tie_between(ROUND, 0, 2), tie_between(ROUND, 1, 2)]
        self.assertEqual(ties, [0, 1, 4])
        third = ((0, 4, 1), ())
        second = ((0, 3, 1), (third, third))
        self.assertEqual(falls_told(ROUND, keep, 6, 0), ("bears", (((0, 2, 1), ()),)))
        self.assertEqual(falls_told(ROUND, keep, 6, 1), ("bears", (((0, 2, 1), (((0, 3, 1), ()),) * 2),)))
        self.assertEqual(falls_told(ROUND, keep, 6, 2), ("bears", (((0, 2, 1), (second, second)),)))

    def test_where_it_breaks(self):
        keep = (1, 2, 3, 4, 5, 6)
        self.assertEqual(falls_told(ROUND, keep, 1, 0), ("breaks", 0, (), (0, 2, 1, 2, 2)))
        told = falls_told(ROUND, keep, 5, 2)
        self.assertEqual(told[:2], ("breaks", 0))
        self.assertEqual(len(told[2]), 2)
        self.assertIs(falls_right(ROUND, keep, 5, 2, told), True)
        # With one tie fallen the keep of a ring without one tie is parted.
        self.assertEqual(falls_told(ring_web(4), (0, 1, 2), 3, 0), ("bears", (((2, 1, 0, 3), ()),)))
        told = falls_told(ring_web(4), (0, 1, 2), 99, 1)
        self.assertEqual((told[:2], len(told[2])), (("breaks", 3), 1))

    def test_all_kept_bears_all(self):
        for web in drawn_webs(12) + [(12, ()), (1, ())]:
            for f in (0, 1, 2):
                self.assertEqual(falls_told(web, whole(web), 1, f), ("bears", ()))
                self.assertIs(falls_right(web, whole(web), 1, f, ("bears", ())), True)

    def check(self, web, keep, t, f):
        told = falls_told(web, keep, t, f)
        self.assertTrue(all_whole(told))
        self.assertIsInstance(told, tuple)
        self.assertIs(falls_right(web, keep, t, f, told), True)
        self.assertTrue(slow_falls_right(web, keep, t, f, told), (web, keep, t, f, told))
        broken = [tie for tie in outside(web, keep) if breaks_at(web, keep, tie, t, f)]
        self.assertEqual(told[:2] if broken else told[0], ("breaks", broken[0]) if broken else "bears")
        return told[0]

    def test_against_all_sets_of_fallen_ties(self):
        seen = set()
        for web, keep in small_keeps():
            for t in (1, 2, 3, 99):
                for f in (0, 1, 2):
                    seen.add((self.check(web, keep, t, f), f, keep == whole(web)))
        for word in ("bears", "breaks"):
            for f in (0, 1, 2):
                self.assertIn((word, f, False), seen)

    def test_what_bears_bears_whichever_ties_of_the_web_fall(self):
        seen = set()
        for web, keep in webs_and_keeps(30, 5):
            for t in (2, 3):
                for f in (0, 1, 2):
                    bears = all(self.of_times_without(web, keep, t, fallen) for fallen in fallen_sets(whole(web), f))
                    self.assertEqual(falls_told(web, keep, t, f)[0] == "bears", bears)
                    seen.add((bears, f))
        self.assertEqual(len(seen), 6)

    def of_times_without(self, web, keep, t, fallen):
        left = [tie for tie in whole(web) if tie not in fallen]
        rest = (web[0], tuple(web[1][tie] for tie in left))
        return slow_of_times(rest, tuple(left.index(tie) for tie in stands(keep, fallen)), t)

    def test_ways_gone_through_one_by_one(self):
        for web, keep in webs_and_keeps(16, 5):
            for tie in outside(web, keep):
                a, b, length = web[1][tie]
                ways = ways_between(web, keep, a, b)
                self.assertEqual(ends_far(web, keep, tie, 2),
                                 not any(slow_within(web, keep, tie, 2, way) for way in ways))

    def test_webs_of_twelve_places(self):
        for seed, web in enumerate(great_webs_of_twelve()):
            for keep in (whole(web)[1:], drawn_keep(Draw(seed), web), ()):
                for t in (2, 99):
                    for f in (0, 1, 2):
                        told = falls_told(web, keep, t, f)
                        self.assertIs(falls_right(web, keep, t, f, told), True)
                        self.assertTrue(slow_falls_right(web, keep, t, f, told))
                        if told[0] == "breaks" and f < 2:
                            ahead = [tie for tie in outside(web, keep) if tie < told[1]]
                            self.assertFalse(any(breaks_at(web, keep, tie, t, f) for tie in ahead))


class JudgeTest(unittest.TestCase):
    def test_one_thing_otherwise_at_each_place(self):
        seen = set()
        for web, keep in webs_and_keeps(24, 5) + [(ROUND, (1, 2, 3, 4, 5, 6))]:
            for t in (2, 3, 6):
                for f in (0, 1, 2):
                    for paper in altered(falls_told(web, keep, t, f)):
                        right = falls_right(web, keep, t, f, paper)
                        self.assertIs(right, slow_falls_right(web, keep, t, f, paper), (web, keep, t, f, paper))
                        seen.add(right)
                        if right:
                            # Whoever made it: what is let by is so.
                            broken = [tie for tie in outside(web, keep) if breaks_at(web, keep, tie, t, f)]
                            self.assertTrue(paper[1] in broken if paper[0] == "breaks" else broken == [])
        self.assertEqual(seen, {True, False})

    def test_a_paper_for_another_f(self):
        keep = (1, 2, 3, 4, 5, 6)
        papers = [falls_told(ROUND, keep, 6, f) for f in (0, 1, 2)]
        for f, paper in enumerate(papers):
            for g in (0, 1, 2):
                self.assertIs(falls_right(ROUND, keep, 6, g, paper), f == g)
        # Fewer may fall than are let.
        broken = falls_told(ROUND, keep, 1, 0)
        for g in (0, 1, 2):
            self.assertIs(falls_right(ROUND, keep, 1, g, broken), True)
        broken = falls_told(ROUND, keep, 5, 2)
        for g in (0, 1, 2):
            self.assertIs(falls_right(ROUND, keep, 5, g, broken), g == 2)

    def test_any_ways_will_do(self):
        keep = (1, 2, 3, 4, 5, 6)
        third = ((0, 2, 1), ())
        second = ((0, 4, 1), (third, third))
        first = ((0, 3, 1), (second, second))
        self.assertIs(falls_right(ROUND, keep, 6, 2, ("bears", (first,))), True)
        self.assertIs(falls_right(ROUND, keep, 5, 2, ("bears", (first,))), False)
        # A way along a tie that has fallen ahead, at whatever depth.
        self.assertIs(falls_right(ROUND, keep, 6, 1, ("bears", (((0, 2, 1), (third, third)),))), False)
        again = ((0, 4, 1), (third, ((0, 3, 1), ())))
        self.assertIs(falls_right(ROUND, keep, 6, 2, ("bears", (((0, 3, 1), (second, again)),))), False)
        # Along the tie itself, and turned about.
        self.assertIs(falls_right(ROUND, keep, 6, 0, ("bears", (((0, 1), ()),))), False)
        self.assertIs(falls_right(ROUND, keep, 6, 0, ("bears", (((1, 2, 0), ()),))), False)

    def test_trees_below_in_the_order_of_the_way(self):
        # By 0-2-3-1, or else by 0-4-3-1 or 0-2-5-1, each along a part of it.
        web = made_web(6, [(0, 1, 1), (0, 2, 1), (2, 3, 1), (1, 3, 1), (0, 4, 1), (3, 4, 1), (2, 5, 1), (1, 5, 1)])
        keep = tuple(tie for tie in whole(web) if tie != 0)
        for first in ((0, 4, 3, 1), (0, 4, 3, 2, 5, 1), (0, 2, 5, 1)):
            for last in ((0, 4, 3, 1), (0, 2, 5, 1)):
                told = ("bears", (((0, 2, 3, 1), ((first, ()), ((0, 2, 5, 1), ()), (last, ()))),))
                asked = first[:2] != (0, 2) and last[-2:] != (3, 1)
                self.assertIs(falls_right(web, keep, 9, 1, told), asked)

    def test_breaks_of_any_tie_that_is_not_kept(self):
        web = full_web(5)
        keep = (0, 1, 2, 3)
        first = falls_told(web, keep, 2, 1)
        self.assertEqual(first[:2], ("breaks", 4))
        for tie in outside(web, keep):
            a, b, length = web[1][tie]
            for fallen, end in (((a - 1,), a), ((b - 1,), b)):
                heights = tuple(10 ** 30 if place == end else 0 for place in range(5))
                self.assertIs(falls_right(web, keep, 2, 1, ("breaks", tie, fallen, heights)), True)
                self.assertIs(falls_right(web, keep, 2, 2, ("breaks", tie, fallen, heights)), True)
                self.assertIs(falls_right(web, keep, 2, 0, ("breaks", tie, fallen, heights)), False)
                self.assertIs(falls_right(web, keep, 2, 1, ("breaks", tie, (), heights)), False)
        for tie in keep + (-1, 10, 10 ** 59, -10 ** 59):
            self.assertIs(falls_right(web, keep, 2, 1, ("breaks", tie, (0,), (0, 9, 9, 9, 9))), False)

    def test_fallen_ties(self):
        web = full_web(4)
        keep = (0, 1, 2)
        heights = (0, 0, 0, 9)
        for fallen, right in (((2,), True), ((0, 2), True), ((1, 2), True), ((0, 1, 2), False), ((2, 0), False),
                              ((2, 2), False), ((2, 5), False), ((3,), False), ((2, 3), False), ((-1, 2), False),
                              ((2, 6), False), ((), False), ((0,), False), ((2, 10 ** 59), False)):
            self.assertIs(falls_right(web, keep, 2, 2, ("breaks", 4, fallen, heights)), right, fallen)

    def test_whatever_tuples(self):
        for web, keep in webs_and_keeps(12):
            many = len(web[1]) - len(keep)
            papers = [(), ("bears",), ("breaks",), ("bears", (), ()), ("breaks", 0), ("breaks", 0, ()), ((), ())]
            for odd in ODD_TUPLES:
                papers.extend([("bears", odd), ("bears", (odd,) * many), ("bears", ((odd, ()),) * many), odd])
                papers.extend([("bears", ((odd, odd),) * many), ("bears", (((), odd),) * many), (odd, odd)])
                for number in (0, many, -1, 10 ** 59, -10 ** 59):
                    papers.extend([("breaks", number, odd, odd), ("breaks", number, (), odd)])
                    papers.append(("breaks", number, odd, ()))
                    papers.extend([("breaks", number, odd), ("breaks", number, odd, odd, odd)])
            deep = ()
            for depth in range(36):
                deep = (deep, deep)
                papers.extend([("bears", (deep,) * many), deep])
            for paper in papers:
                for f in (0, 2):
                    shaped = paper[:1] in (("bears",), ("breaks",))
                    asked = shaped and slow_falls_right(web, keep, 3, f, paper)
                    self.assertIs(falls_right(web, keep, 3, f, paper), asked, paper)


class RefusalTest(FallRefusals, unittest.TestCase):
    def asks(self, web, t, f):
        return (lambda: falls_told(web, (), t, f), lambda: falls_right(web, (), t, f, ("bears", ())),
                lambda: falls_right(web, (), t, f, ()))


class OwnTest(unittest.TestCase):
    def test_the_same_question_has_the_same_answer(self):
        for web in great_webs_of_twelve():
            keep = whole(web)[::2]
            before = (tuple(web), tuple(keep))
            for f in (0, 1, 2):
                self.assertEqual(falls_told(web, keep, 3, f), falls_told(web, keep, 3, f))
            self.assertEqual((web, keep), before)


if __name__ == "__main__":
    unittest.main()
