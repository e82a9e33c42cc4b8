import unittest
from itertools import permutations

from tests.helper import ANYTHING, all_whole, drawn_webs, full_web, great_webs
from thinways import errors
from thinways.webs import is_keep, is_plain, is_web, kept_length, made_web, order_of, tie_between, whole

TOP = 10 ** 18
SIXTY = [(a, b, 1) for a in range(24) for b in range(a + 1, 24)][:60]


class MadeWebTest(unittest.TestCase):
    def refused(self, n, ties):
        with self.assertRaises(errors.NoWeb) as caught:
            made_web(n, ties)
        self.assertIsInstance(caught.exception, errors.ThinError)
        self.assertIsInstance(caught.exception, ValueError)
        self.assertIs(type(caught.exception), errors.NoWeb)

    def test_from_a_list_and_from_a_tuple(self):
        asked = (3, ((0, 1, 5), (0, 2, 4), (1, 2, 7)))
        self.assertEqual(made_web(3, [(0, 1, 5), (0, 2, 4), (1, 2, 7)]), asked)
        self.assertEqual(made_web(3, ((0, 1, 5), (0, 2, 4), (1, 2, 7))), asked)

    def test_from_either_end_and_in_any_order(self):
        asked = (4, ((0, 1, 5), (0, 3, 9), (2, 3, 1)))
        for ties in permutations([(1, 0, 5), (0, 3, 9), (3, 2, 1)]):
            self.assertEqual(made_web(4, list(ties)), asked)
            self.assertEqual(made_web(4, tuple((b, a, length) for a, b, length in ties)), asked)

    def test_ties_rise_by_place_not_by_figure_or_length(self):
        self.assertEqual(made_web(12, [(10, 2, 1), (2, 9, 5), (1, 11, 9)]), (12, ((1, 11, 9), (2, 9, 5), (2, 10, 1))))

    def test_numbers_of_places(self):
        self.assertEqual(made_web(1, []), (1, ()))
        self.assertEqual(made_web(24, [(23, 0, 1)]), (24, ((0, 23, 1),)))
        for n in (0, 25, -1, True, False, "3", "", None, (3,), [3], {}, 10 ** 59, -10 ** 59):
            self.refused(n, [])

    def test_none_sixty_and_sixty_one_ties(self):
        self.assertEqual(made_web(24, ()), (24, ()))
        self.assertEqual(made_web(24, SIXTY), (24, tuple(SIXTY)))
        self.assertEqual(made_web(24, SIXTY[::-1]), (24, tuple(SIXTY)))
        self.refused(24, SIXTY + [(22, 23, 1)])
        self.refused(24, tuple(SIXTY) + ((22, 23, 1),))
        self.refused(24, [(a, b, 1) for a in range(24) for b in range(a + 1, 24)])

    def test_lengths(self):
        self.assertEqual(made_web(2, [(0, 1, 1)]), (2, ((0, 1, 1),)))
        self.assertEqual(made_web(2, [(0, 1, TOP)]), (2, ((0, 1, TOP),)))
        for length in (0, TOP + 1, -1, -TOP, True, False, "1", None, (1,), [1], 10 ** 59):
            self.refused(2, [(0, 1, length)])

    def test_a_tie_twice(self):
        for other in ((0, 1, 5), (1, 0, 5), (0, 1, 6), (1, 0, 6), (0, 1, 4), (1, 0, 4)):
            self.refused(3, [(0, 1, 5), (1, 2, 5), other])
            self.refused(3, (other, (1, 2, 5), (0, 1, 5)))

    def test_a_place_tied_to_itself(self):
        self.refused(3, [(1, 1, 5)])
        self.refused(1, [(0, 0, 1)])

    def test_places_that_are_none(self):
        for place in (-1, 3, 24, 10 ** 59, -10 ** 59, True, False, "0", None, (), []):
            self.refused(3, [(place, 1, 5)])
            self.refused(3, [(1, place, 5)])
            self.refused(3, [(2, place, 5), (0, 1, 1)])

    def test_ties_that_are_no_tuples_of_three(self):
        for tie in ANYTHING + ((0, 1), (0, 1, 1, 1), [0, 1, 1], "011", (0,), {0: 1, 1: 2, 2: 3}, ((0, 1), 1)):
            self.refused(3, [tie])
            self.refused(3, ((0, 2, 1), tie))

    def test_ties_that_are_neither_a_list_nor_a_tuple(self):
        for ties in ANYTHING:
            if ties not in ([], ()):
                self.refused(3, ties)
        self.refused(3, {(0, 1, 1): True})
        self.refused(3, {(0, 1, 1)})
        self.refused(3, iter([(0, 1, 1)]))

    def test_what_is_handed_in_is_not_changed_and_not_kept(self):
        ties = [(2, 1, 3), (1, 0, 2)]
        web = made_web(3, ties)
        self.assertEqual(ties, [(2, 1, 3), (1, 0, 2)])
        ties.append((0, 2, 1))
        ties[0] = (0, 1, 9)
        self.assertEqual(web, (3, ((0, 1, 2), (1, 2, 3))))
        self.assertEqual(made_web(3, [(2, 1, 3), (1, 0, 2)]), web)

    def test_what_is_told_is_a_web_of_whole_numbers(self):
        for web in drawn_webs(40) + great_webs():
            self.assertIs(is_web(web), True)
            self.assertTrue(all_whole(web))
            self.assertEqual(made_web(web[0], web[1]), web)


class IsWebTest(unittest.TestCase):
    def test_of_anything(self):
        for thing in ANYTHING:
            self.assertIs(is_web(thing), False, thing)
            self.assertIs(is_web((thing, ())), thing == 7 and thing is not True, thing)
            self.assertIs(is_web((3, thing)), thing == (), thing)
            self.assertIs(is_web((3, (thing,))), False, thing)
            self.assertIs(is_web((3, ((0, 1, thing),))), thing == 7 and thing is not True, thing)
            self.assertIs(is_web((3, ((0, thing, 1),))), False, thing)

    def test_webs(self):
        for web in ((1, ()), (24, ()), (24, tuple(SIXTY)), (2, ((0, 1, 1),)), (2, ((0, 1, TOP),)),
                    (4, ((0, 1, 9), (0, 2, 1), (2, 3, 1)))):
            self.assertIs(is_web(web), True, web)

    def test_no_webs(self):
        for thing in ((0, ()), (25, ()), (-1, ()), (True, ()), (3,), (3, (), ()), [3, ()], (3, []),
                      (3, ([0, 1, 1],)), (3, [(0, 1, 1)]), (24, tuple(SIXTY) + ((22, 23, 1),)),
                      (2, ((0, 1, 0),)), (2, ((0, 1, TOP + 1),)), (2, ((0, 1, -1),)), (2, ((0, 1, True),)),
                      (2, ((1, 0, 1),)), (2, ((0, 0, 1),)), (2, ((0, 2, 1),)), (2, ((-1, 1, 1),)),
                      (2, ((False, 1, 1),)), (2, ((0, True, 1),)), (2, ((0, 1),)), (2, ((0, 1, 1, 1),)),
                      (3, ((0, 2, 1), (0, 1, 1))), (3, ((0, 1, 1), (0, 1, 1))), (3, ((0, 1, 1), (0, 1, 2)))):
            self.assertIs(is_web(thing), False, thing)


class IsPlainTest(unittest.TestCase):
    def test_plain_where_all_lengths_are_one(self):
        self.assertIs(is_plain(full_web(5)), True)
        self.assertIs(is_plain((4, ())), True)
        self.assertIs(is_plain((3, ((0, 1, 1), (1, 2, 2)))), False)
        self.assertIs(is_plain((3, ((0, 1, 2), (1, 2, 1)))), False)
        self.assertIs(is_plain(full_web(4, 2)), False)
        self.assertIs(is_plain((2, ((0, 1, TOP),))), False)


class KeepTest(unittest.TestCase):
    web = made_web(4, [(0, 1, 5), (0, 2, 1), (1, 3, 5), (2, 3, 2)])

    def test_keeps(self):
        for keep in ((), (0,), (3,), (0, 3), (0, 1, 2, 3)):
            self.assertIs(is_keep(self.web, keep), True, keep)
        self.assertIs(is_keep((1, ()), ()), True)
        self.assertIs(is_keep((24, tuple(SIXTY)), tuple(range(60))), True)

    def test_no_keeps(self):
        for thing in ((1, 0), (0, 0), (0, 1, 1), (0, 2, 1), (-1,), (4,), (0, 4), (10 ** 59,), (-10 ** 59,), (True,),
                      (False,), (0, True), (None,), ("0",), ((0,),), [], [0], [0, 1], {}, {0: 1}, {0}, "", "0", None,
                      0, True, range(2)):
            self.assertIs(is_keep(self.web, thing), False, thing)
        self.assertIs(is_keep((1, ()), (0,)), False)
        self.assertIs(is_keep((24, tuple(SIXTY)), (60,)), False)

    def test_of_anything(self):
        for thing in ANYTHING:
            right = isinstance(thing, tuple) and thing in ((), (0,), (1, 2))
            self.assertIs(is_keep(self.web, thing), right, thing)
            self.assertIs(is_keep(self.web, (thing,)), thing == 0 and thing is not False, thing)

    def test_whole(self):
        self.assertEqual(whole(self.web), (0, 1, 2, 3))
        self.assertEqual(whole((1, ())), ())
        self.assertEqual(whole((24, tuple(SIXTY))), tuple(range(60)))

    def test_tie_between_from_either_end(self):
        for number, (a, b, length) in enumerate(self.web[1]):
            self.assertEqual(tie_between(self.web, a, b), number)
            self.assertEqual(tie_between(self.web, b, a), number)
        self.assertIsNone(tie_between(self.web, 0, 3))
        self.assertIsNone(tie_between(self.web, 3, 0))
        self.assertIsNone(tie_between(self.web, 1, 1))
        for web in great_webs():
            for number, (a, b, length) in enumerate(web[1]):
                self.assertEqual((tie_between(web, a, b), tie_between(web, b, a)), (number, number))

    def test_order_by_length_then_by_number(self):
        self.assertEqual(order_of(self.web), (1, 3, 0, 2))
        self.assertEqual(order_of((1, ())), ())
        self.assertEqual(order_of(full_web(5)), tuple(range(10)))
        falling = made_web(4, [(0, 1, 10), (0, 2, 9), (0, 3, 2), (1, 2, 9)])
        self.assertEqual(order_of(falling), (2, 1, 3, 0))
        for web in drawn_webs(40) + great_webs():
            order = order_of(web)
            self.assertEqual(sorted(order), list(range(len(web[1]))))
            keys = [(web[1][tie][2], tie) for tie in order]
            self.assertEqual(keys, sorted(keys))
            self.assertTrue(all_whole(order))

    def test_kept_length(self):
        self.assertEqual(kept_length(self.web, ()), 0)
        self.assertEqual(kept_length(self.web, (1,)), 1)
        self.assertEqual(kept_length(self.web, (0, 3)), 7)
        self.assertEqual(kept_length(self.web, (0, 1, 2, 3)), 13)
        sixty = (24, tuple((a, b, TOP) for a, b, length in SIXTY))
        self.assertEqual(kept_length(sixty, whole(sixty)), 60 * TOP)


if __name__ == "__main__":
    unittest.main()
