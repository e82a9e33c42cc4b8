import unittest

from tests.helper import (
    ODD_TUPLES, Draw, FallRefusals, all_whole, altered, breaks_at, drawn_web, drawn_webs, fallen_sets, full_web,
    great_webs_of_twelve, ring_web, slow_fall_right, slow_of_times, slow_tree_right, stands,
)
from thinways.fallrule import fall_right, fall_rule
from thinways.falls import falls_right, falls_told
from thinways.rule import ring_rule
from thinways.webs import made_web, order_of, whole


def slow_rule(web, t, f):
    kept = ()
    for tie in order_of(web):
        if breaks_at(web, kept, tie, t, f):
            kept = tuple(sorted(kept + (tie,)))
    return kept


def slow_right(web, t, f, told):
    if len(told) != 2 or not isinstance(told[1], tuple) or len(told[1]) != len(web[1]):
        return False
    kept = ()
    for tie, reason in zip(order_of(web), told[1]):
        if not isinstance(reason, tuple):
            return False
        if reason[:1] == ("falls",) and len(reason) == 3 and slow_fall_right(web, kept, tie, t, f, *reason[1:]):
            kept = tuple(sorted(kept + (tie,)))
        elif reason[:1] != ("ways",) or len(reason) != 2 or not slow_tree_right(web, kept, tie, t, f, (), reason[1]):
            return False
    return told[0] == kept


class RuleTest(unittest.TestCase):
    def test_full_webs(self):
        # A star by the first place, then as many more as have to fall to part a place.
        self.assertEqual(fall_rule(full_web(4), 3, 0)[0], (0, 1, 2))
        self.assertEqual(fall_rule(full_web(4), 3, 1)[0], (0, 1, 2, 3, 4))
        self.assertEqual(fall_rule(full_web(4), 3, 2)[0], (0, 1, 2, 3, 4, 5))
        self.assertEqual(fall_rule(full_web(5), 2, 1)[0], slow_rule(full_web(5), 2, 1))

    def test_reasons_in_the_order(self):
        # Ties 0: 0-1 of 4, 1: 0-2 of 1, 2: 1-2 of 2: the order is 1, 2, 0.
        web = made_web(3, [(0, 1, 4), (0, 2, 1), (1, 2, 2)])
        falls = (("falls", (), (0, 2, 2)), ("falls", (), (3, 0, 3)))
        self.assertEqual(fall_rule(web, 1, 0), ((1, 2), falls + (("ways", ((0, 2, 1), ())),)))
        keep, reasons = fall_rule(web, 1, 1)
        self.assertEqual((keep, reasons[:2]), ((0, 1, 2), falls))
        self.assertEqual((reasons[2][0], len(reasons[2][1])), ("falls", 1))

    def test_of_no_ties(self):
        for f in (0, 1, 2):
            self.assertEqual(fall_rule((12, ()), 1, f), ((), ()))
            self.assertIs(fall_right((12, ()), 1, f, ((), ())), True)
            self.assertIs(fall_right((12, ()), 1, f, ((0,), ())), False)

    def check(self, web, t, f):
        told = fall_rule(web, t, f)
        self.assertTrue(all_whole(told))
        self.assertEqual(len(told[1]), len(web[1]))
        self.assertEqual([tie for tie, reason in zip(order_of(web), told[1]) if reason[0] == "falls"],
                         [tie for tie in order_of(web) if tie in told[0]])
        self.assertTrue(slow_right(web, t, f, told))
        self.assertIs(fall_right(web, t, f, told), True)
        return told[0]

    def test_against_all_sets_of_fallen_ties(self):
        sizes = {0: 0, 1: 0, 2: 0}
        for web in drawn_webs(60, 6):
            for t in (1, 2, 3, 99):
                for f in (0, 1, 2):
                    keep = self.check(web, t, f)
                    self.assertEqual(keep, slow_rule(web, t, f), (web, t, f))
                    sizes[f] += len(keep)
        self.assertTrue(sizes[0] < sizes[1] < sizes[2] < sum(4 * len(web[1]) for web in drawn_webs(60, 6)))

    def test_it_bears_as_many_falls(self):
        for web in drawn_webs(40, 6) + great_webs_of_twelve():
            for t in (1, 3):
                for f in (0, 1, 2):
                    keep = fall_rule(web, t, f)[0]
                    told = falls_told(web, keep, t, f)
                    self.assertEqual(told[0], "bears")
                    self.assertIs(falls_right(web, keep, t, f, told), True)

    def test_whichever_ties_of_the_web_fall(self):
        for web in drawn_webs(30, 5):
            for f in (0, 1, 2):
                keep = fall_rule(web, 2, f)[0]
                for fallen in fallen_sets(whole(web), f):
                    left = stands(whole(web), fallen)
                    rest = (web[0], tuple(web[1][tie] for tie in left))
                    self.assertTrue(slow_of_times(rest, tuple(left.index(tie) for tie in stands(keep, fallen)), 2))

    def test_without_falls_it_is_the_rule_of_rings(self):
        for web in drawn_webs(40, 7) + great_webs_of_twelve():
            for t in (1, 2, 3, 99):
                self.assertEqual(fall_rule(web, t, 0)[0], ring_rule(web, t)[0])

    def test_webs_of_twelve_places(self):
        for web in great_webs_of_twelve():
            for t in (1, 3, 99):
                for f in (0, 1, 2):
                    self.check(web, t, f)
        web = drawn_web(Draw(3), 12, 30, 10 ** 18)
        self.assertEqual(fall_rule(web, 3, 1)[0], slow_rule(web, 3, 1))


class JudgeTest(unittest.TestCase):
    def test_one_thing_otherwise_at_each_place(self):
        seen = set()
        for web in drawn_webs(24, 5):
            for t in (2, 3):
                for f in (0, 1, 2):
                    for paper in altered(fall_rule(web, t, f)):
                        right = fall_right(web, t, f, paper)
                        self.assertIs(right, slow_right(web, t, f, paper), (web, t, f, paper))
                        seen.add(right)
                        if right:
                            self.assertEqual(paper[0], slow_rule(web, t, f))
        self.assertEqual(seen, {True, False})

    def test_other_reasons_will_do(self):
        web = full_web(4)
        keep, reasons = fall_rule(web, 3, 1)
        self.assertEqual((keep, [reason[0] for reason in reasons]), ((0, 1, 2, 3, 4), ["falls"] * 5 + ["ways"]))
        self.assertIs(fall_right(web, 3, 1, (keep, (("falls", (), (9, -9, 0, 3)),) + reasons[1:])), True)
        # By 0 or by 1, in either order.
        for one, other in (((2, 0, 3), (2, 1, 3)), ((2, 1, 3), (2, 0, 3))):
            last = ("ways", (one, ((other, ()), (other, ()))))
            self.assertIs(fall_right(web, 3, 1, (keep, reasons[:5] + (last,))), True)
            last = ("ways", (one, ((other, ()), (one, ()))))
            self.assertIs(fall_right(web, 3, 1, (keep, reasons[:5] + (last,))), False)
        # What fell need not be all that may fall: the first three are kept whatever falls.
        self.assertEqual([reason[1] for reason in reasons[:3]], [(), (), ()])
        fallen = ("falls", (0,), (0, 9, 0, 0))
        self.assertIs(fall_right(web, 3, 1, (keep, reasons[:1] + (("falls", (0,), (0, 9, 9, 0)),) + reasons[2:])), True)
        self.assertIs(fall_right(web, 3, 1, (keep, (fallen,) + reasons[1:])), False)

    def test_ties_behind_are_none(self):
        # Fallen ties and ways are of those kept ahead alone.
        web = full_web(3)
        keep, reasons = fall_rule(web, 2, 0)
        self.assertEqual(keep, (0, 1))
        papers = (((1, 2), (("ways", ((0, 2, 1), ())), ("falls", (), (0, 3, 3)), ("falls", (), (0, 0, 3)))),
                  ((0, 1, 2), reasons[:2] + (("falls", (), (0, 0, 3)),)),
                  ((0, 1, 2), reasons[:2] + (("falls", (1,), (0, 0, 3)),)))
        for paper in papers:
            self.assertIs(fall_right(web, 2, 0, paper), False)
        self.assertIs(fall_right(web, 2, 1, papers[2]), True)
        for place in (0, 1):
            for fallen in ((1,), (2,), (0, 2), (1, 2), (2, 1)):
                reason = ("falls", fallen, (9, -9, 30))
                paper = ((0, 1, 2), papers[2][1][:place] + (reason,) + papers[2][1][place + 1:])
                self.assertIs(fall_right(web, 2, 2, paper), False)

    def test_a_keep_that_is_none(self):
        for web in (full_web(4), ring_web(5), great_webs_of_twelve()[2]):
            keep, reasons = fall_rule(web, 3, 1)
            self.assertIs(fall_right(web, 3, 1, (keep, reasons)), True)
            for other in ODD_TUPLES + (keep[::-1], keep + keep[-1:], keep[:-1], keep + (len(web[1]),), keep + (-1,),
                                       (False,) + keep[1:]):
                self.assertIs(fall_right(web, 3, 1, (other, reasons)), other == keep and other[:1] != (False,))

    def test_whatever_tuples(self):
        for web in drawn_webs(10):
            many = len(web[1])
            papers = [(), ((),), ((), (), ()), ((), ()), (whole(web), ((),) * many), ((), (("ways",),) * many)]
            for odd in ODD_TUPLES:
                papers.extend([(odd, (("ways", odd),) * many), (whole(web), (("ways", (odd, odd)),) * many)])
                papers.extend([(odd, odd), (whole(web), (("falls", odd, odd),) * many)])
                papers.append((odd, (("falls", odd),) * many))
                papers.extend([(whole(web), (("falls", (), odd),) * many), ((0,), (("ways", (odd, ())),) * 400)])
                papers.append((whole(web), (("falls", odd, odd, odd),) * many))
            for paper in papers:
                for f in (0, 2):
                    self.assertIs(fall_right(web, 2, f, paper), slow_right(web, 2, f, paper), paper)


class RefusalTest(FallRefusals, unittest.TestCase):
    def asks(self, web, t, f):
        return (lambda: fall_rule(web, t, f), lambda: fall_right(web, t, f, ((), ())),
                lambda: fall_right(web, t, f, ()))


class OwnTest(unittest.TestCase):
    def test_the_same_question_has_the_same_answer(self):
        for web in great_webs_of_twelve():
            before = tuple(web)
            for f in (0, 1, 2):
                self.assertEqual(fall_rule(web, 3, f), fall_rule(web, 3, f))
            self.assertEqual(web, before)


if __name__ == "__main__":
    unittest.main()
