import unittest
from itertools import permutations

from tests.helper import (
    ANYTHING, ODD_TUPLES, Draw, all_whole, altered, by_one, drawn_webs, full_web, great_webs, ring_web, slow_beyond,
    slow_fars, slow_length, slow_of_times, slow_rings, slow_rule, slow_way, slow_within, webs_and_keeps,
)
from thinways.errors import NoOrder, ThinError
from thinways.rule import needed, ring_rule, rule_in, rule_right
from thinways.spares import spare
from thinways.webs import kept_length, made_web, order_of, whole

RING = ring_web(5)


def slow_rule_right(web, t, told):
    if len(told) != 2 or len(told[1]) != len(web[1]):
        return False
    kept = []
    for tie, reason in zip(order_of(web), told[1]):
        if not isinstance(reason, tuple) or len(reason) != 2:
            return False
        if reason[0] == "heights" and slow_beyond(web, kept, tie, t, reason[1]):
            kept.append(tie)
        elif reason[0] != "way" or not slow_within(web, kept, tie, t, reason[1]):
            return False
    return told[0] == tuple(sorted(kept))


def drawn_order(draw, web):
    left = list(whole(web))
    order = []
    while left:
        order.append(left.pop(draw.below(len(left))))
    return tuple(order)


class RuleInTest(unittest.TestCase):
    def test_in_several_orders(self):
        web = full_web(3)
        for order in permutations((0, 1, 2)):
            self.assertEqual(rule_in(web, order, 2), tuple(sorted(order[:2])))
            self.assertEqual(rule_in(web, order, 1), (0, 1, 2))
        # The long tie ahead is kept, behind the others it isn't.
        web = made_web(3, [(0, 1, 1), (0, 2, 1), (1, 2, 2)])
        self.assertEqual(rule_in(web, (0, 1, 2), 1), (0, 1))
        self.assertEqual(rule_in(web, (2, 1, 0), 1), (0, 1, 2))
        self.assertEqual(rule_in(web, (2, 1, 0), 3), (1, 2))

    def test_of_times_t_whatever_the_order(self):
        for seed, web in enumerate(drawn_webs(40)):
            for order in (whole(web), whole(web)[::-1], drawn_order(Draw(seed), web)):
                for t in (1, 2, 3, 99):
                    keep = rule_in(web, order, t)
                    self.assertEqual(keep, slow_rule(web, order, t))
                    self.assertTrue(slow_of_times(web, keep, t))
                    self.assertTrue(all_whole(keep))

    def test_by_the_order_of_the_web_it_keeps_what_the_rule_keeps(self):
        for web in drawn_webs(40) + great_webs():
            for t in (1, 3, 99):
                self.assertEqual(rule_in(web, order_of(web), t), ring_rule(web, t)[0])

    def test_great_webs(self):
        for seed, web in enumerate(great_webs()):
            order = drawn_order(Draw(seed), web)
            self.assertEqual(rule_in(web, order, 3), slow_rule(web, order, 3))

    def test_no_order(self):
        odd = ((), (0, 1, 2, 3), (0, 1, 2, 3, 3), (0, 1, 2, 3, 5), (-1, 0, 1, 2, 3), (0, 1, 2, 3, 4, 5),
               (0, 1, 2, 3, 4, 4), [0, 1, 2, 3, 4], (0, True, 2, 3, 4), (False, 1, 2, 3, 4), (0, 1, 2, 3, None),
               (0, 1, 2, 3, "4"), (0, 1, 2, 3, (4,)), (0, 1, 2, 3, 10 ** 59), (0, 1, 2, 3, -1), "01234", range(5),
               {0: 0, 1: 1, 2: 2, 3: 3, 4: 4}, {0, 1, 2, 3, 4}, ((0, 1, 2, 3, 4),))
        for order in odd + ANYTHING:
            with self.assertRaises(NoOrder) as caught:
                rule_in(RING, order, 3)
            self.assertIsInstance(caught.exception, ThinError)
        for order in ANYTHING:
            if order != ():
                with self.assertRaises(NoOrder):
                    rule_in((2, ()), order, 3)
        self.assertEqual(rule_in((2, ()), (), 3), ())


class RingRuleTest(unittest.TestCase):
    def test_reasons_in_the_order_of_the_web(self):
        # Ties 0: 0-1 of 4, 1: 0-2 of 1, 2: 1-2 of 2: the order is 1, 2, 0.
        web = made_web(3, [(0, 1, 4), (0, 2, 1), (1, 2, 2)])
        told = ((1, 2), (("heights", (0, 2, 2)), ("heights", (3, 0, 3)), ("way", (0, 2, 1))))
        self.assertEqual(ring_rule(web, 1), told)
        self.assertEqual(order_of(web), (1, 2, 0))
        self.assertIs(rule_right(web, 1, told), True)

    def test_kept_where_just_more_than_t_times(self):
        # Round by the others the last tie's ends are 9 apart, then 8: one more than twice 4, then just twice.
        web = made_web(4, [(0, 1, 3), (1, 2, 3), (2, 3, 3), (0, 3, 4)])
        self.assertEqual(ring_rule(web, 2)[0], (0, 1, 2, 3))
        web = made_web(4, [(0, 1, 3), (1, 2, 3), (2, 3, 2), (0, 3, 4)])
        self.assertEqual(ring_rule(web, 2)[0], (0, 2, 3))

    def test_of_no_ties(self):
        self.assertEqual(ring_rule((5, ()), 1), ((), ()))
        self.assertIs(rule_right((5, ()), 1, ((), ())), True)
        self.assertIs(rule_right((5, ()), 1, ((0,), ())), False)
        self.assertIs(rule_right((5, ()), 1, ((), (("way", (0,)),))), False)

    def check(self, web, t):
        keep, reasons = ring_rule(web, t)
        self.assertEqual(keep, slow_rule(web, order_of(web), t))
        self.assertEqual(len(reasons), len(web[1]))
        kept = []
        for tie, reason in zip(order_of(web), reasons):
            a, b, length = web[1][tie]
            row = slow_fars(web, kept)[a]
            if tie in keep:
                roof = t * length + 1
                self.assertEqual(reason, ("heights", tuple(roof if far is None else min(far, roof) for far in row)))
                kept.append(tie)
            else:
                self.assertEqual((reason[0], slow_length(web, reason[1])), ("way", row[b]))
        self.assertTrue(all_whole((keep, reasons)))
        self.assertIs(rule_right(web, t, (keep, reasons)), True)

    def test_against_distances(self):
        for web in drawn_webs(60):
            for t in (1, 2, 3, 99):
                self.check(web, t)

    def test_the_ways_are_the_first_ones(self):
        for web in drawn_webs(60):
            for t in (2, 3):
                kept = []
                for tie, reason in zip(order_of(web), ring_rule(web, t)[1]):
                    if reason[0] == "way":
                        self.assertEqual(reason[1], slow_way(web, kept, web[1][tie][0], web[1][tie][1]))
                    else:
                        kept.append(tie)

    def test_great_webs(self):
        for web in great_webs():
            for t in (1, 3, 99):
                self.check(web, t)


class RuleRightTest(unittest.TestCase):
    def test_one_thing_otherwise_at_each_place(self):
        for web in drawn_webs(32, 5):
            for t in (1, 2, 3):
                for paper in altered(ring_rule(web, t)):
                    right = rule_right(web, t, paper)
                    self.assertIs(right, slow_rule_right(web, t, paper), (web, t, paper))
                    if right:
                        self.assertEqual(paper[0], slow_rule(web, order_of(web), t))

    def test_other_ways_and_other_heights_will_do(self):
        web = full_web(4)
        keep, reasons = ring_rule(web, 3)
        self.assertEqual((keep, reasons[3]), ((0, 1, 2), ("way", (1, 0, 2))))
        self.assertIs(rule_right(web, 3, (keep, (("heights", (9, -9, 0, 3)),) + reasons[1:])), True)
        web = made_web(4, [(0, 1, 1), (1, 2, 1), (2, 3, 1), (0, 3, 1), (0, 2, 9)])
        keep, reasons = ring_rule(web, 2)
        self.assertEqual((keep, reasons[-1]), ((0, 2, 3, 4), ("way", (0, 1, 2))))
        self.assertIs(rule_right(web, 2, (keep, reasons[:-1] + (("way", (0, 3, 2)),))), True)
        self.assertIs(rule_right(web, 2, (keep, reasons[:-1] + (("way", (2, 3, 0)),))), False)

    def test_a_reason_of_the_other_kind(self):
        for web in drawn_webs(30):
            keep, reasons = ring_rule(web, 2)
            for place, reason in enumerate(reasons):
                a, b, length = web[1][order_of(web)[place]]
                for other in (("way", (a, b)), ("way", (b, a)), ("heights", (0,) * web[0]), ("way", ()), ("way", (a,))):
                    paper = (keep, reasons[:place] + (other,) + reasons[place + 1:])
                    self.assertIs(rule_right(web, 2, paper), False)

    def test_ways_by_ties_behind_are_none(self):
        # Of three ties as long the last one isn't kept; no other is let by in its stead.
        web = full_web(3)
        for paper in (((1, 2), (("way", (0, 2, 1)), ("heights", (0, 3, 3)), ("heights", (0, 0, 3)))),
                      ((0, 2), (("heights", (0, 3, 3)), ("way", (0, 1, 2)), ("heights", (3, 0, 3))))):
            self.assertIs(rule_right(web, 2, paper), False)

    def test_a_keep_that_is_none(self):
        for web in (full_web(4), RING, great_webs()[1]):
            keep, reasons = ring_rule(web, 3)
            self.assertIs(rule_right(web, 3, (keep, reasons)), True)
            for other in ODD_TUPLES + (keep[::-1], keep + keep[-1:], keep[:-1], keep + (len(web[1]),), keep + (-1,),
                                       (False,) + keep[1:], whole(web) + whole(web)):
                self.assertIs(rule_right(web, 3, (other, reasons)), False)

    def test_whatever_tuples(self):
        for web in drawn_webs(10):
            many = len(web[1])
            papers = [(), ((),), ((), (), ()), ((), ()), (whole(web), ((),) * many), ((), (("way",),) * many)]
            for odd in ODD_TUPLES:
                for word in ("way", "heights"):
                    papers.extend([(odd, ((word, odd),) * many), (whole(web), ((word, odd),) * many)])
                    papers.extend([((), ((word, odd),)), ((0,), ((word, odd),) * 400)])
            for paper in papers:
                self.assertIs(rule_right(web, 2, paper), slow_rule_right(web, 2, paper), paper)


class RingsOfTheRuleTest(unittest.TestCase):
    def test_no_ring_is_short(self):
        for web in drawn_webs(60, 7):
            for t in (1, 2, 3, 4):
                for ring in slow_rings(web, ring_rule(web, t)[0]):
                    longest = max(slow_length(web, step) for step in zip(ring, ring[1:] + ring[:1]))
                    self.assertGreater(len(ring), t + 1)
                    self.assertGreater(slow_length(web, ring + ring[:1]), (t + 1) * longest)

    def test_great_webs(self):
        for web in great_webs():
            for t in (1, 2, 3, 5):
                keep = ring_rule(web, t)[0]
                for tie in keep:
                    a, b, length = web[1][tie]
                    rest = tuple(other for other in keep if other != tie)
                    steps = slow_fars(by_one(web), rest)[a][b]
                    around = slow_fars(web, rest)[a][b]
                    self.assertTrue(steps is None or steps + 1 > t + 1)
                    self.assertTrue(around is None or around + length > (t + 1) * length)


class NeededTest(unittest.TestCase):
    def test_just_t_times_and_one_more(self):
        web = made_web(3, [(0, 1, 5), (0, 2, 6), (1, 2, 9)])
        # The spares are 15, 14 and 11 long.
        self.assertEqual(needed(web, whole(web), 1), (0, 1, 2))
        self.assertEqual(needed(web, whole(web), 2), (0, 1))
        self.assertEqual(needed(web, whole(web), 3), ())
        self.assertEqual(needed(made_web(3, [(0, 1, 5), (0, 2, 6), (1, 2, 10)]), (0, 1, 2), 3), (0,))
        self.assertEqual(needed(web, (0, 1), 99), (0, 1))
        self.assertEqual(needed(web, (), 1), ())

    def test_all_of_the_rule(self):
        for web in drawn_webs(60) + great_webs():
            for t in (1, 2, 3, 99):
                keep = ring_rule(web, t)[0]
                self.assertEqual(needed(web, keep, t), keep)

    def test_no_other_keep_within_the_rule_is_of_times_t(self):
        for web in drawn_webs(40):
            for t in (1, 2, 3):
                keep = ring_rule(web, t)[0]
                for tie in keep:
                    self.assertFalse(slow_of_times(web, tuple(other for other in keep if other != tie), t))

    def test_in_the_keep_of_all_those_that_each_keep_of_times_t_has(self):
        for web in drawn_webs(40, 4):
            for t in (1, 2, 3):
                shared = set(whole(web))
                for bits in range(2 ** len(web[1])):
                    keep = tuple(tie for tie in whole(web) if bits >> tie & 1)
                    if slow_of_times(web, keep, t):
                        shared = shared & set(keep)
                self.assertEqual(needed(web, whole(web), t), tuple(sorted(shared)))

    def test_against_spares(self):
        for web, keep in webs_and_keeps(40):
            for t in (1, 2, 5):
                told = needed(web, keep, t)
                self.assertTrue(all_whole(told))
                for tie in keep:
                    a, b, length = web[1][tie]
                    around = slow_fars(web, tuple(other for other in keep if other != tie))[a][b]
                    self.assertEqual(tie in told, around is None or around > t * length)

    def test_great_webs(self):
        for web in great_webs():
            told = needed(web, whole(web), 2)
            for tie in whole(web):
                way = spare(web, whole(web), tie)
                self.assertEqual(tie in told, way is None or slow_length(web, way) > 2 * web[1][tie][2])


class OwnTest(unittest.TestCase):
    def test_the_same_question_has_the_same_answer(self):
        for web in (RING, full_web(6), great_webs()[0]):
            before = (web[0], tuple(tuple(tie) for tie in web[1]))
            self.assertEqual(ring_rule(web, 3), ring_rule(web, 3))
            self.assertEqual(needed(web, whole(web), 3), needed(web, whole(web), 3))
            self.assertEqual(kept_length(web, ring_rule(web, 3)[0]), kept_length(web, ring_rule(web, 3)[0]))
            self.assertEqual(web, before)


if __name__ == "__main__":
    unittest.main()
