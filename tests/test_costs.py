import unittest

from tests.helper import (
    ODD_TUPLES, Draw, all_keeps, all_whole, altered, drawn_keep, drawn_webs, full_web, great_webs, is_number, ring_web,
    roofed, slow_fars, slow_hold, slow_length, slow_way, stands, tied, webs_and_keeps,
)
from thinways.costs import cost_of, cost_right
from thinways.spares import spare
from thinways.webs import made_web, whole

PARTED = made_web(5, [(0, 1, 2), (1, 2, 3), (0, 2, 4), (2, 3, 1), (3, 4, 7)])


def slow_round_right(web, rest, tie, way, heights):
    a, b, length = web[1][tie]
    links = tied(web, rest)
    if not isinstance(way, tuple) or way[:1] != (a,) or way[-1:] != (b,) or len(set(way)) < len(way):
        return False
    if any(step not in links for step in zip(way, way[1:])) or not slow_hold(web, rest, heights):
        return False
    return abs(heights[a] - heights[b]) == slow_length(web, way)


def slow_apart_right(web, rest, tie, places):
    a, b, length = web[1][tie]
    if not isinstance(places, tuple) or not all(is_number(place) and 0 <= place < web[0] for place in places):
        return False
    if list(places) != sorted(set(places)) or a not in places or b in places:
        return False
    return not any((one in places) != (other in places) for one, other in tied(web, rest))


def slow_cost_right(web, keep, tie, told):
    rest = stands(keep, (tie,))
    if told[:1] == ("round",) and len(told) == 3:
        return slow_round_right(web, rest, tie, told[1], told[2])
    return told[:1] == ("apart",) and len(told) == 2 and slow_apart_right(web, rest, tie, told[1])


def small_keeps():
    told = [(web, keep) for web in drawn_webs(20, 4) for keep in all_keeps(web)]
    return told + webs_and_keeps(40, 6)


class ToldTest(unittest.TestCase):
    def test_round(self):
        # Ties 0: 0-1 of 2, 1: 0-2 of 4, 2: 1-2 of 3, 3: 2-3 of 1, 4: 3-4 of 7.
        self.assertEqual(cost_of(PARTED, whole(PARTED), 0), ("round", (0, 2, 1), (0, 7, 4, 5, 7)))
        self.assertEqual(cost_of(PARTED, whole(PARTED), 1), ("round", (0, 1, 2), (0, 2, 5, 5, 5)))
        self.assertEqual(cost_of(PARTED, whole(PARTED), 2), ("round", (1, 0, 2), (2, 0, 6, 6, 6)))

    def test_apart(self):
        self.assertEqual(cost_of(PARTED, whole(PARTED), 3), ("apart", (0, 1, 2)))
        self.assertEqual(cost_of(PARTED, whole(PARTED), 4), ("apart", (0, 1, 2, 3)))
        self.assertEqual(cost_of(PARTED, (0, 2, 3, 4), 0), ("apart", (0,)))
        self.assertEqual(cost_of(PARTED, (2, 4), 2), ("apart", (1,)))
        self.assertEqual(cost_of(made_web(2, [(0, 1, 10 ** 18)]), (0,), 0), ("apart", (0,)))

    def test_where_no_way_leads_the_roof_stands(self):
        web = made_web(5, [(0, 1, 9), (0, 2, 1), (1, 2, 1), (3, 4, 1)])
        self.assertEqual(cost_of(web, whole(web), 0), ("round", (0, 2, 1), (0, 2, 1, 2, 2)))

    def check(self, web, keep, tie):
        told = cost_of(web, keep, tie)
        rest = stands(keep, (tie,))
        a, b, length = web[1][tie]
        row = slow_fars(web, rest)[a]
        if row[b] is None:
            self.assertEqual(told, ("apart", tuple(place for place in range(web[0]) if row[place] is not None)))
        else:
            self.assertEqual(told, ("round", spare(web, keep, tie), roofed(row, row[b])))
            self.assertEqual(slow_length(web, told[1]), row[b])
        self.assertTrue(all_whole(told))
        self.assertIs(cost_right(web, keep, tie, told), True)
        return told

    def test_each_kept_tie(self):
        seen = set()
        for web, keep in small_keeps():
            for tie in keep:
                told = self.check(web, keep, tie)
                seen.add(told[0])
                if told[0] == "round":
                    a, b, length = web[1][tie]
                    self.assertEqual(told[1], slow_way(web, stands(keep, (tie,)), a, b))
        self.assertEqual(seen, {"round", "apart"})

    def test_great_webs(self):
        for seed, web in enumerate(great_webs() + [ring_web(24, 10 ** 18), full_web(11, 10 ** 18)]):
            for keep in (whole(web), drawn_keep(Draw(seed), web)):
                for tie in keep:
                    self.check(web, keep, tie)


class JudgeTest(unittest.TestCase):
    def test_one_thing_otherwise_at_each_place(self):
        seen = set()
        for web, keep in webs_and_keeps(40, 5):
            for tie in keep:
                for paper in altered(cost_of(web, keep, tie)):
                    right = cost_right(web, keep, tie, paper)
                    self.assertIs(right, slow_cost_right(web, keep, tie, paper), (web, keep, tie, paper))
                    seen.add((paper[:1], right))
                    if right:
                        told = cost_of(web, keep, tie)
                        self.assertEqual(paper[0], told[0])
                        self.assertEqual([slow_length(web, way) for way in paper[1:2] if told[0] == "round"],
                                         [slow_length(web, way) for way in told[1:2] if told[0] == "round"])
        self.assertTrue({(("round",), True), (("round",), False), (("apart",), False)} <= seen)

    def test_any_shortest_way_and_any_heights(self):
        web = made_web(4, [(0, 1, 1), (0, 2, 1), (1, 2, 1), (0, 3, 1), (1, 3, 1)])
        self.assertEqual(cost_of(web, whole(web), 0), ("round", (0, 2, 1), (0, 2, 1, 1)))
        self.assertIs(cost_right(web, whole(web), 0, ("round", (0, 3, 1), (10, 12, 11, 11))), True)
        self.assertIs(cost_right(web, whole(web), 0, ("round", (0, 3, 1), (0, -2, -1, -1))), True)
        self.assertIs(cost_right(web, whole(web), 0, ("round", (1, 3, 0), (0, 2, 1, 1))), False)
        self.assertIs(cost_right(web, whole(web), 0, ("round", (0, 1), (0, 1, 0, 0))), False)
        self.assertIs(cost_right(web, whole(web), 0, ("round", (0, 3, 1), (0, 1, 1, 1))), False)
        # A way that is longer than need be can't be shown by any heights that hold.
        web = made_web(4, [(0, 1, 1), (0, 2, 1), (1, 2, 1), (0, 3, 2), (1, 3, 2)])
        self.assertIs(cost_right(web, whole(web), 0, ("round", (0, 3, 1), (0, 4, 2, 2))), False)
        self.assertIs(cost_right(web, (0, 2, 4), 0, ("round", (0, 3, 1), (0, 4, 9, 2))), True)

    def test_any_places_with_no_way_out(self):
        web = made_web(6, [(0, 1, 1), (2, 3, 1), (4, 5, 1)])
        for places, right in (((0,), True), ((0, 2, 3), True), ((0, 4, 5), True), ((0, 2, 3, 4, 5), True), ((), False),
                              ((0, 1), False), ((1,), False), ((0, 2), False), ((0, 3, 4, 5), False), ((2, 3), False),
                              ((2, 0, 3), False), ((0, 0), False), ((0, 2, 3, 3), False), ((0, 6), False),
                              ((-1, 0), False), ((0, 10 ** 59), False)):
            self.assertIs(cost_right(web, whole(web), 0, ("apart", places)), right, places)

    def test_the_tie_itself_may_lead_out_and_no_other(self):
        web = full_web(3)
        self.assertIs(cost_right(web, (0, 1), 0, ("apart", (0, 2))), True)
        self.assertIs(cost_right(web, (0, 1), 0, ("apart", (0,))), False)
        self.assertIs(cost_right(web, (0, 1), 1, ("apart", (0, 1))), True)
        self.assertIs(cost_right(web, (0, 1, 2), 1, ("apart", (0, 1))), False)

    def test_whatever_tuples(self):
        for web, keep in webs_and_keeps(16):
            papers = [(), ("round",), ("apart",), ("round", (), ()), ("apart", ()), ("apart", (), ()), ((), ())]
            for odd in ODD_TUPLES:
                papers.extend([("round", odd, odd), ("round", odd), ("round", odd, (0,) * web[0]), ("apart", odd), odd])
                papers.extend([("round", odd, odd, odd), ("apart", odd, odd), ("round", (), odd), (odd, odd)])
            for tie in keep[:3]:
                way = (web[1][tie][0], web[1][tie][1])
                for paper in papers + [("round", way, odd) for odd in ODD_TUPLES]:
                    self.assertIs(cost_right(web, keep, tie, paper), slow_cost_right(web, keep, tie, paper), paper)


class OwnTest(unittest.TestCase):
    def test_the_same_question_has_the_same_answer(self):
        for web in (PARTED, ring_web(8), great_webs()[0]):
            keep = whole(web)
            before = (tuple(web), tuple(keep))
            for tie in keep:
                self.assertEqual(cost_of(web, keep, tie), cost_of(web, keep, tie))
            self.assertEqual((web, keep), before)


if __name__ == "__main__":
    unittest.main()
