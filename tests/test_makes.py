import unittest
from itertools import combinations

from tests.helper import (
    ANYTHING, NO_TIMES, Draw, all_whole, drawn_web, drawn_webs, full_web, great_webs, is_number, ring_web,
    slow_of_times, slow_order, slow_rule,
)
from thinways.errors import NoLength, NoTie, NoTimes, ThinError
from thinways.makes import Thinned
from thinways.rule import ring_rule
from thinways.webs import is_web, made_web, order_of, tie_between, whole

NO_LENGTHS = tuple(thing for thing in ANYTHING if not is_number(thing) or not 1 <= thing <= 10 ** 18) + (
    0, -1, 10 ** 18 + 1, 10 ** 59, -10 ** 59, True, False, None, "1", (1,), [1], {1: 1},
)


def kept_ends(web, keep):
    return {web[1][tie][:2] for tie in keep}


def rule_of(web, t):
    return slow_rule(web, slow_order(web), t)


def without_tie(web, a, b):
    return (web[0], tuple(tie for tie in web[1] if tie[:2] != (min(a, b), max(a, b))))


def behind(web, a, b):
    """How many ties come behind this one in the order."""
    order = order_of(web)
    return len(order) - 1 - order.index(tie_between(web, a, b))


class State:
    """What is to be told of a thinned web."""

    def __init__(self, web, t):
        self.t = t
        self.steps = [(web, rule_of(web, t))]

    def fall(self, a, b):
        web, keep = self.steps[-1]
        number = tie_between(web, a, b)
        return self.go(without_tie(web, a, b), behind(web, a, b) if number in keep else 0)

    def come(self, a, b, length):
        web, keep = self.steps[-1]
        more = made_web(web[0], web[1] + ((a, b, length),))
        kept = tie_between(more, a, b) in rule_of(more, self.t)
        return self.go(more, behind(more, a, b) if kept else 0)

    def go(self, web, many):
        ahead = kept_ends(*self.steps[-1])
        self.steps.append((web, rule_of(web, self.t)))
        now = kept_ends(*self.steps[-1])
        return ((tuple(sorted(ahead - now)), tuple(sorted(now - ahead))), many)


def now(thinned):
    return (thinned.web(), thinned.keep(), thinned.gone_through())


class FirstTest(unittest.TestCase):
    def test_as_the_rule_keeps(self):
        for web in drawn_webs(30) + great_webs():
            for t in (1, 3, 99):
                thinned = Thinned(web, t)
                self.assertEqual(now(thinned), (web, ring_rule(web, t)[0], 0))
                self.assertIs(thinned.back(), False)
                self.assertEqual(now(thinned), (web, ring_rule(web, t)[0], 0))

    def test_no_times(self):
        for t in NO_TIMES:
            with self.assertRaises(NoTimes):
                Thinned(full_web(4), t)


class DeedTest(unittest.TestCase):
    def test_a_kept_tie_falls(self):
        thinned = Thinned(full_web(4), 3)
        self.assertEqual(thinned.keep(), (0, 1, 2))
        self.assertEqual(thinned.fall(0, 1), (((0, 1),), ((1, 2),)))
        self.assertEqual(thinned.web(), made_web(4, [(0, 2, 1), (0, 3, 1), (1, 2, 1), (1, 3, 1), (2, 3, 1)]))
        self.assertEqual(thinned.keep(), (0, 1, 2))
        # All five others come behind the first one.
        self.assertEqual(thinned.gone_through(), 5)
        self.assertEqual(thinned.fall(2, 0), (((0, 2),), ((1, 3),)))
        self.assertEqual((thinned.keep(), thinned.gone_through()), ((0, 1, 2), 4))

    def test_a_tie_that_is_not_kept_falls(self):
        thinned = Thinned(full_web(4), 3)
        self.assertEqual(thinned.fall(3, 2), ((), ()))
        self.assertEqual((thinned.keep(), thinned.gone_through()), ((0, 1, 2), 0))
        self.assertEqual(len(thinned.web()[1]), 5)

    def test_a_tie_comes(self):
        thinned = Thinned(made_web(4, [(0, 2, 2), (1, 2, 2), (2, 3, 9)]), 1)
        # The way 0-2-1 is 4 long, so it is kept; only the tie of 9 lies behind it.
        self.assertEqual(thinned.come(1, 0, 3), ((), ((0, 1),)))
        self.assertEqual((thinned.keep(), thinned.gone_through()), ((0, 1, 2, 3), 1))
        self.assertEqual(thinned.web(), made_web(4, [(0, 1, 3), (0, 2, 2), (1, 2, 2), (2, 3, 9)]))

    def test_what_went_with_a_tie_that_came(self):
        thinned = Thinned(made_web(3, [(0, 2, 2), (1, 2, 2)]), 2)
        self.assertEqual(thinned.come(0, 1, 1), (((1, 2),), ((0, 1),)))
        self.assertEqual((thinned.keep(), thinned.gone_through()), ((0, 1), 2))
        self.assertEqual(thinned.fall(0, 1), (((0, 1),), ((1, 2),)))
        self.assertEqual((thinned.keep(), thinned.gone_through()), ((0, 1), 2))

    def test_a_tie_comes_that_is_not_kept(self):
        thinned = Thinned(made_web(4, [(0, 1, 1), (1, 2, 1), (2, 3, 9)]), 1)
        self.assertEqual(thinned.come(2, 0, 2), ((), ()))
        self.assertEqual((thinned.keep(), thinned.gone_through()), ((0, 2, 3), 0))
        # Of ties as long the one of the lesser number is ahead: 0-2 comes in for 1-2, which goes.
        thinned = Thinned(made_web(3, [(0, 1, 1), (1, 2, 1)]), 2)
        self.assertEqual(thinned.come(2, 0, 1), (((1, 2),), ((0, 2),)))
        self.assertEqual((thinned.keep(), thinned.gone_through()), ((0, 1), 1))

    def drawn_deed(self, draw, thinned, state, lengths):
        web = state.steps[-1][0]
        ends = [pair for pair in combinations(range(web[0]), 2)]
        if not ends:
            return
        pair = ends[draw.below(len(ends))]
        a, b = pair if draw.below(2) else pair[::-1]
        if tie_between(web, a, b) is not None:
            told, many = state.fall(a, b)
            answer = thinned.fall(a, b)
        elif len(web[1]) < 60:
            length = lengths[draw.below(len(lengths))]
            told, many = state.come(a, b, length)
            answer = thinned.come(a, b, length)
        else:
            return
        self.assertEqual(answer, told)
        self.assertTrue(all_whole(answer))
        self.assertEqual(thinned.gone_through(), many)

    def walk(self, web, t, seed, many, lengths):
        draw = Draw(seed)
        thinned = Thinned(web, t)
        state = State(web, t)
        for step in range(many):
            if draw.below(5) == 0:
                self.assertIs(thinned.back(), len(state.steps) > 1)
                state.steps = state.steps[:-1] or state.steps
                self.assertEqual(thinned.gone_through(), 0)
            else:
                self.drawn_deed(draw, thinned, state, lengths)
            self.assertEqual((thinned.web(), thinned.keep()), state.steps[-1])
            self.assertTrue(is_web(thinned.web()))
            self.assertTrue(all_whole(thinned.keep()))
            self.assertEqual(thinned.keep(), ring_rule(thinned.web(), t)[0])
        while len(state.steps) > 1:
            state.steps.pop()
            self.assertIs(thinned.back(), True)
            self.assertEqual(now(thinned), state.steps[-1] + (0,))
        self.assertIs(thinned.back(), False)
        self.assertEqual(now(thinned), state.steps[-1] + (0,))

    def test_deeds_one_behind_the_other(self):
        for seed, web in enumerate(drawn_webs(40, 7)):
            for t in (1, 2, 3):
                self.walk(web, t, seed * 3 + t, 24, (1, 2, 3, 4, 9, 50, 10 ** 18))

    def test_great_webs(self):
        for seed, web in enumerate(great_webs()):
            self.walk(web, 3, seed, 8, (1, 10 ** 18, 10 ** 18 - 3))

    def test_ties_ahead_stay_and_all_others_where_it_was_not_kept(self):
        for web in drawn_webs(40, 6):
            for t in (1, 2):
                for number, (a, b, length) in enumerate(web[1]):
                    thinned = Thinned(web, t)
                    ahead = [web[1][tie][:2] for tie in order_of(web)[:order_of(web).index(number)]]
                    before = kept_ends(web, thinned.keep())
                    went, came = thinned.fall(a, b)
                    self.assertFalse(set(ahead) & set(went + came))
                    if (a, b) not in before:
                        self.assertEqual((went, came), ((), ()))
                    else:
                        self.assertIn((a, b), went)
                    # And it comes again.
                    self.assertEqual(thinned.come(b, a, length), (came, went))
                    self.assertEqual(thinned.web(), web)
                    self.assertEqual(thinned.keep(), ring_rule(web, t)[0])
                    self.assertTrue(slow_of_times(web, thinned.keep(), t))


class RefusalTest(unittest.TestCase):
    def refused(self, thinned, error, ask):
        before = now(thinned)
        with self.assertRaises(error) as caught:
            ask()
        self.assertIsInstance(caught.exception, ThinError)
        self.assertEqual(now(thinned), before)

    def test_a_fall_where_none_is_tied(self):
        thinned = Thinned(made_web(4, [(0, 1, 1), (1, 2, 1)]), 3)
        thinned.come(0, 2, 9)
        for a, b in ((0, 3), (3, 0), (0, 0), (1, 1), (0, 4), (-1, 0), (4, 5), (-1, -2), (10 ** 59, 0), (0, -10 ** 59)):
            self.refused(thinned, NoTie, lambda: thinned.fall(a, b))
        self.assertEqual(thinned.fall(2, 0), ((), ()))

    def test_a_tie_that_can_not_come(self):
        thinned = Thinned(made_web(4, [(0, 1, 1), (1, 2, 1)]), 3)
        for length in (1, 10 ** 18) + NO_LENGTHS:
            for a, b in ((0, 1), (1, 0), (2, 1), (0, 0), (3, 3), (0, 4), (4, 0), (-1, 0), (3, -1), (24, 25), (-1, -1),
                         (10 ** 59, 0), (-10 ** 59, 10 ** 59), (4, 4)):
                self.refused(thinned, NoTie, lambda: thinned.come(a, b, length))

    def test_no_length(self):
        thinned = Thinned(made_web(4, [(0, 1, 1), (1, 2, 1)]), 3)
        for length in NO_LENGTHS:
            for a, b in ((0, 2), (3, 0), (2, 3)):
                self.refused(thinned, NoLength, lambda: thinned.come(a, b, length))
        thinned.come(0, 2, 10 ** 18)
        thinned.come(0, 3, 1)

    def test_sixty_ties(self):
        ends = list(combinations(range(12), 2))
        thinned = Thinned(made_web(12, [(a, b, 1) for a, b in ends[:59]]), 3)
        thinned.come(ends[59][1], ends[59][0], 7)
        for a, b in ends[60:]:
            for length in (1, 0, None, "1"):
                self.refused(thinned, NoTie, lambda: thinned.come(a, b, length))
        thinned.fall(0, 1)
        self.refused(thinned, NoLength, lambda: thinned.come(ends[60][0], ends[60][1], 0))
        thinned.come(ends[60][0], ends[60][1], 1)
        self.assertEqual(len(thinned.web()[1]), 60)

    def test_what_is_refused_is_no_deed(self):
        thinned = Thinned(full_web(4), 3)
        thinned.fall(0, 1)
        many = thinned.gone_through()
        for ask in (lambda: thinned.fall(0, 1), lambda: thinned.come(0, 2, 1), lambda: thinned.come(0, 1, 0)):
            with self.assertRaises(ThinError):
                ask()
        self.assertEqual((many, thinned.gone_through()), (5, 5))
        self.assertIs(thinned.back(), True)
        self.assertEqual(now(thinned), (full_web(4), (0, 1, 2), 0))
        self.assertIs(thinned.back(), False)


class OwnTest(unittest.TestCase):
    def test_two_do_not_touch_one_another(self):
        web = full_web(4)
        one = Thinned(web, 3)
        other = Thinned(web, 3)
        one.fall(0, 1)
        self.assertEqual(now(other), (web, (0, 1, 2), 0))
        other.fall(2, 3)
        self.assertEqual(one.gone_through(), 5)
        self.assertIs(one.back(), True)
        self.assertEqual(len(other.web()[1]), 5)
        self.assertIs(one.back(), False)
        self.assertIs(other.back(), True)

    def test_what_was_told_stays_as_it_is(self):
        thinned = Thinned(full_web(5), 3)
        web, keep = thinned.web(), thinned.keep()
        told = thinned.fall(0, 1)
        thinned.come(1, 0, 4)
        thinned.back()
        self.assertEqual((web, keep, told), (full_web(5), (0, 1, 2, 3), (((0, 1),), ((1, 2),))))

    def test_a_deed_that_changes_nothing_kept_is_taken_back_too(self):
        thinned = Thinned(ring_web(5), 4)
        unkept = [tie for tie in whole(ring_web(5)) if tie not in thinned.keep()][0]
        a, b, length = ring_web(5)[1][unkept]
        self.assertEqual(thinned.fall(a, b), ((), ()))
        self.assertIs(thinned.back(), True)
        self.assertEqual(thinned.web(), ring_web(5))
        self.assertIs(thinned.back(), False)

    def test_the_same_deeds_have_the_same_answers(self):
        for seed in range(6):
            web = drawn_web(Draw(seed), 9, 20, 6)
            told = []
            for turn in (0, 1):
                thinned = Thinned(web, 2)
                told.append([thinned.fall(a, b) for a, b, length in web[1]] + [now(thinned)])
            self.assertEqual(told[0], told[1])


if __name__ == "__main__":
    unittest.main()
