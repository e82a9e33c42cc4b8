import unittest

from tests.helper import (
    ANYTHING, NO_TIMES, ODD_TUPLES, Draw, all_keeps, altered, drawn_webs, full_web, great_webs, is_number, outside,
    ring_web, roofed, slow_beyond, slow_fars, slow_of_times, slow_pieces,
)
from thinways.cases import cases_show
from thinways.errors import NoTimes
from thinways.fewest import fewest
from thinways.webs import made_web, whole

RING = ring_web(4)
KEPT = ("kept",)


def slow_far(web, t, out, tie, heights):
    return is_number(tie) and tie in out and slow_beyond(web, outside(web, out), tie, t, heights)


def slow_show(web, t, tree, kept=(), out=()):
    if tree == ("kept",):
        return len(kept) + slow_pieces(web, kept) - slow_pieces(web, whole(web))
    if not isinstance(tree, tuple):
        return None
    if len(tree) == 3 and tree[0] == "far":
        return len(web[1]) + 1 if slow_far(web, t, out, tree[1], tree[2]) else None
    if len(tree) != 4 or tree[0] != "tie" or not is_number(tree[1]) or tree[1] not in outside(web, kept + out):
        return None
    one = slow_show(web, t, tree[2], kept + (tree[1],), out)
    other = slow_show(web, t, tree[3], kept, out + (tree[1],))
    return None if one is None or other is None else min(one, other)


def far_heights(web, t, out, tie):
    a, b, length = web[1][tie]
    return roofed(slow_fars(web, outside(web, out))[a], t * length + 1)


def drawn_tree(draw, web, t, depth, kept=(), out=()):
    left = outside(web, kept + out)
    if out and draw.below(3) == 0:
        tie = out[draw.below(len(out))]
        heights = far_heights(web, t, out, tie)
        if slow_far(web, t, out, tie, heights):
            return ("far", tie, heights)
    if depth == 0 or not left or draw.below(6) == 0:
        return KEPT
    tie = left[draw.below(len(left))]
    one = drawn_tree(draw, web, t, depth - 1, kept + (tie,), out)
    return ("tie", tie, one, drawn_tree(draw, web, t, depth - 1, kept, out + (tie,)))


class KindsTest(unittest.TestCase):
    def test_kept(self):
        self.assertEqual(cases_show(RING, 2, KEPT), 3)
        self.assertEqual(cases_show((1, ()), 2, KEPT), 0)
        self.assertEqual(cases_show((24, ()), 99, KEPT), 0)
        self.assertEqual(cases_show(made_web(5, [(0, 1, 4), (2, 3, 4)]), 1, KEPT), 2)
        # With a whole ring kept one tie joins nothing.
        web = full_web(3)
        self.assertEqual(cases_show(web, 2, KEPT), 2)
        tree = ("tie", 2, ("tie", 0, ("tie", 1, KEPT, KEPT), KEPT), KEPT)
        self.assertEqual(cases_show(web, 2, tree), 2)

    def test_far(self):
        # In a ring of four as long ties a tie's ends are three ties apart without it.
        heights = far_heights(RING, 2, (0,), 0)
        self.assertEqual(heights, (0, 3, 2, 1))
        self.assertEqual(cases_show(RING, 2, ("tie", 0, KEPT, ("far", 0, heights))), 3)
        every = KEPT
        for tie in (3, 2, 1, 0):
            every = ("tie", tie, every, ("far", tie, far_heights(RING, 2, (tie,), tie)))
        self.assertEqual(cases_show(RING, 2, every), 4)
        self.assertIsNone(cases_show(RING, 3, every))
        # One more than the web has ties, where nothing else is shown.
        web = made_web(2, [(0, 1, 5)])
        self.assertEqual(cases_show(web, 99, ("tie", 0, KEPT, ("far", 0, (0, 496)))), 1)
        self.assertIsNone(cases_show(web, 99, ("tie", 0, KEPT, ("far", 0, (0, 495)))))
        self.assertEqual(cases_show(web, 99, ("tie", 0, KEPT, ("far", 0, (10 ** 59, -10 ** 59)))), 1)

    def test_far_shows_one_more_than_the_web_has_ties(self):
        # Both ties into place 2 left out: the far case shows 4, so the others alone tell.
        web = full_web(3)
        far = ("far", 1, (0, 0, 3))
        tree = ("tie", 1, ("tie", 0, ("tie", 2, KEPT, KEPT), KEPT), ("tie", 2, KEPT, far))
        self.assertEqual(cases_show(web, 2, tree), slow_show(web, 2, tree))
        for tree, asked in ((("tie", 1, KEPT, ("tie", 2, KEPT, far)), 2), (("tie", 1, far, far), None)):
            self.assertEqual(cases_show(web, 2, tree), asked)

    def test_far_by_another_tie_left_out(self):
        web = ring_web(4)
        # Ties 0: 0-1, 1: 0-3, 2: 1-2, 3: 2-3. Without 0 and 2 place 1 is cut off.
        for tie in (0, 2):
            tree = ("tie", 0, KEPT, ("tie", 2, KEPT, ("far", tie, (0, 99, 0, 0))))
            self.assertEqual(cases_show(web, 98, tree), 3)
        for tie in (1, 3, -2, -4, 4, 10 ** 59, True, "0", (0,), (), ""):
            tree = ("tie", 0, KEPT, ("tie", 2, KEPT, ("far", tie, (0, 99, 0, 0))))
            self.assertIsNone(cases_show(web, 98, tree))

    def test_the_lesser_of_both(self):
        # A kept tie of a ring's last joins nothing: one side shows 3, the other 2.
        web = full_web(3)
        for tree, asked in ((("tie", 0, ("tie", 1, ("tie", 2, KEPT, KEPT), KEPT), KEPT), 2), (KEPT, 2)):
            self.assertEqual(cases_show(web, 1, tree), asked)
        deep = ("tie", 0, ("tie", 1, ("tie", 2, KEPT, ("far", 2, (1, 0, 2))), ("far", 1, (0, 1, 2))),
                ("far", 0, (0, 2, 1)))
        self.assertEqual(cases_show(web, 1, deep), 3)


class NoneTest(unittest.TestCase):
    def nowhere(self, web, t, thing):
        """The thing shows None, and so does whatever has it within it, at any depth, on either side."""
        self.assertIsNone(cases_show(web, t, thing), thing)
        for around in (("tie", 3, thing, KEPT), ("tie", 3, KEPT, thing), ("tie", 2, ("tie", 3, KEPT, thing), KEPT),
                       ("tie", 2, KEPT, ("tie", 3, thing, KEPT)), ("tie", 3, thing, thing)):
            self.assertIsNone(cases_show(web, t, around), around)

    def test_wrong_words_and_other_kinds_of_things(self):
        for thing in ANYTHING + ODD_TUPLES:
            self.nowhere(RING, 2, thing)
        for thing in ((), ("",), ("Kept",), ("kept ",), (("kept",),), "kept", ("far",), ("tie",), (0,), ("keeps",),
                      ("kept", "kept"), ("k", "e", "p", "t"), ["kept"], {"kept": 1}):
            self.nowhere(RING, 2, thing)

    def test_too_few_and_too_many_things(self):
        for thing in (("kept", 0), ("kept", ()), ("kept", KEPT), ("tie", 0), ("tie", 0, KEPT), ("tie", KEPT, KEPT),
                      ("tie", 0, KEPT, KEPT, KEPT), ("tie", 0, KEPT, KEPT, 0), (0, KEPT, KEPT), ("far", 0),
                      ("far", 0, (0, 3, 2, 1), ()), ("tie", 0, KEPT, ("far", (0, 3, 2, 1))),
                      ("tie", 0, KEPT, ("far", 0, 0, 3, 1, 2)), ("tie", 0, KEPT, ("far", 0, (0, 3, 2, 1), 0))):
            self.nowhere(RING, 2, thing)

    def test_a_tie_that_is_kept_or_left_out_by_then(self):
        for tree in (("tie", 0, ("tie", 0, KEPT, KEPT), KEPT), ("tie", 0, KEPT, ("tie", 0, KEPT, KEPT)),
                     ("tie", 0, ("tie", 1, ("tie", 0, KEPT, KEPT), KEPT), KEPT),
                     ("tie", 0, KEPT, ("tie", 1, ("tie", 0, KEPT, KEPT), KEPT))):
            self.nowhere(RING, 2, tree)
        # On the two sides of one tie the same tie may well be asked for.
        inner = ("tie", 1, KEPT, KEPT)
        self.assertEqual(cases_show(RING, 2, ("tie", 0, inner, inner)), 3)

    def test_ties_that_are_none(self):
        for tie in (-1, 4, 60, 10 ** 59, -10 ** 59, True, False, None, "0", "", (), (0,)):
            self.nowhere(RING, 2, ("tie", tie, KEPT, KEPT))
            self.nowhere(RING, 2, ("tie", 0, KEPT, ("far", tie, (0, 3, 2, 1))))

    def test_far_where_the_tie_is_not_left_out(self):
        far = ("far", 0, (0, 3, 2, 1))
        self.assertEqual(cases_show(RING, 2, ("tie", 0, KEPT, far)), 3)
        for tree in (far, ("tie", 0, far, KEPT), ("tie", 0, far, far), ("tie", 1, KEPT, far)):
            self.assertIsNone(cases_show(RING, 2, tree))

    def test_heights_that_do_not_hold_or_do_not_differ_enough(self):
        for heights in ((0, 3), (0, 3, 2, 1, 0), (), 0, "", "0321", (0, 3, "2", 1), (0, 3, (2,), 1), (0, 3, 2, True),
                        (False, 3, 2, 1), (0, 3, None, 1), (0, 0, 0, 0), (0, 2, 2, 1), (0, -2, 0, 0)):
            self.nowhere(RING, 2, ("tie", 0, KEPT, ("far", 0, heights)))
        for heights in ((0, 3, 1, 1), (0, 3, 2, 2), (0, 4, 2, 1), (0, 3, 3, 1), (10 ** 59, 0, 0, 0), (1, 3, 2, 1)):
            tree = ("tie", 0, KEPT, ("far", 0, heights))
            self.assertIsNone(cases_show(RING, 2, tree))
            self.assertIsNone(cases_show(RING, 2, ("tie", 2, tree, KEPT)))
        for heights in ((3, 0, 1, 2), (-7, -4, -5, -6), (10 ** 59 + 3, 10 ** 59, 10 ** 59 + 1, 10 ** 59 + 2)):
            self.assertEqual(cases_show(RING, 2, ("tie", 0, KEPT, ("far", 0, heights))), 3)

    def test_heights_hold_across_all_ties_not_left_out(self):
        # Ties 1 and 3 are open, tie 2 is kept: all three still bind; left out as well it binds no more.
        wide = ("far", 0, (0, 9, 0, 0))
        self.assertIsNone(cases_show(RING, 2, ("tie", 0, KEPT, wide)))
        self.assertIsNone(cases_show(RING, 2, ("tie", 0, KEPT, ("tie", 2, wide, KEPT))))
        self.assertEqual(cases_show(RING, 2, ("tie", 0, KEPT, ("tie", 2, KEPT, wide))), 3)

    def test_in_webs_of_no_ties(self):
        for tree in (("tie", 0, KEPT, KEPT), ("far", 0, (0,)), ("far", 0, ()), ()):
            self.assertIsNone(cases_show((1, ()), 1, tree))


class DrawnTest(unittest.TestCase):
    def test_drawn_trees(self):
        numbers = []
        for seed, web in enumerate(drawn_webs(48, 5)):
            for t in (1, 2, 3):
                tree = drawn_tree(Draw(100 * seed + t), web, t, 5)
                shown = cases_show(web, t, tree)
                self.assertEqual(shown, slow_show(web, t, tree), tree)
                self.assertIs(type(shown), int)
                numbers.append(shown)
                least = min(len(keep) for keep in all_keeps(web) if slow_of_times(web, keep, t))
                self.assertLessEqual(shown, least)
        self.assertGreater(len(set(numbers)), 4)

    def test_one_thing_otherwise_at_any_depth(self):
        told = {True: 0, False: 0}
        for seed, web in enumerate(drawn_webs(24, 4)):
            for tree in (drawn_tree(Draw(seed), web, 2, 4), fewest(web, 2)[1]):
                for other in altered(tree, (), ("tie", (), "")):
                    shown = cases_show(web, 2, other)
                    self.assertEqual(shown, slow_show(web, 2, other), other)
                    told[shown is None] += 1
        self.assertGreater(told[True], 1000)
        self.assertGreater(told[False], 20)

    def test_great_webs_and_deep_trees(self):
        for web in great_webs():
            for side in (0, 1):
                tree = KEPT
                for tie in reversed(range(min(36, len(web[1])))):
                    tree = ("tie", tie, tree, KEPT) if side == 0 else ("tie", tie, KEPT, tree)
                self.assertEqual(cases_show(web, 3, tree), slow_show(web, 3, tree))
                self.assertIsNone(cases_show(web, 3, ("tie", 35, tree, KEPT)))
        web = great_webs()[0]
        for tie in (0, 31, 59):
            tree = ("tie", tie, KEPT, ("far", tie, far_heights(web, 1, (tie,), tie)))
            self.assertEqual(cases_show(web, 1, tree), 23)
            self.assertIsNone(cases_show(web, 99, tree))

    def test_a_deep_pile_of_tuples(self):
        pile = ()
        for depth in range(39):
            pile = (pile,)
        self.assertIsNone(cases_show(RING, 2, pile))
        self.assertIsNone(cases_show(RING, 2, ("tie", 0, pile, KEPT)))
        self.assertIsNone(cases_show(RING, 2, ("kept",) * 400))


class TimesTest(unittest.TestCase):
    def test_no_times_ahead_of_all_others(self):
        for t in NO_TIMES:
            for tree in (KEPT, (), ("far",)):
                with self.assertRaises(NoTimes):
                    cases_show(RING, t, tree)
            with self.assertRaises(NoTimes):
                cases_show(None, t, None)

    def test_the_same_question_has_the_same_answer(self):
        tree = fewest(RING, 2)[1]
        self.assertEqual(cases_show(RING, 2, tree), cases_show(RING, 2, tree))


if __name__ == "__main__":
    unittest.main()
