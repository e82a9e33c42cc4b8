import unittest
from itertools import permutations

from tests.helper import (
    ODD_TUPLES, Draw, all_keeps, all_whole, altered, drawn_keep, drawn_webs, full_web, great_webs, ring_web,
    slow_rings, tied, webs_and_keeps,
)
from thinways.few import few_right, few_told, peeled, share_of
from thinways.rule import ring_rule
from thinways.webs import made_web, whole


def ties_to(web, keep, place, others):
    links = tied(web, keep)
    return sum(1 for other in others if (place, other) in links)


def slow_peeled(web, keep, d):
    order = []
    left = list(range(web[0]))
    while any(ties_to(web, keep, place, left) <= d for place in left):
        place = min(place for place in left if ties_to(web, keep, place, left) <= d)
        order.append(place)
        left.remove(place)
    return (tuple(order), tuple(left))


def slow_share(n, k):
    return next(d for d in range(30) if 1 + (d + 1) * sum(d ** i for i in range(k)) > n)


def slow_few_right(web, keep, k, told):
    if len(told) != 2:
        return False
    word, places = told
    if word == "ring":
        return len(places) <= 2 * k and places in slow_rings(web, keep)
    if word != "few" or sorted(places) != list(range(web[0])):
        return False
    share = slow_share(web[0], k)
    return all(ties_to(web, keep, place, places[turn + 1:]) <= share for turn, place in enumerate(places))


def dense_webs():
    """Webs of which, for some k, a ring is told: full ones, alone or with a tail or within great ones."""
    tail = made_web(9, list(full_web(6)[1]) + [(5, 6, 1), (6, 7, 1), (7, 8, 1)])
    behind = made_web(24, [(a + 17, b + 17, length) for a, b, length in full_web(7)[1]] + [(0, 17, 1), (1, 0, 1)])
    halves = made_web(8, [(a, b, 3) for a in range(4) for b in range(4, 8)])
    return [full_web(4), full_web(5, 10 ** 18), full_web(7), tail, behind, halves, made_web(24, full_web(11)[1])]


class PeeledTest(unittest.TestCase):
    def test_each_time_the_least_place_left(self):
        # A tail 0-4-2 at a ring 1-2-3: by 1 goes 0, then 4; the ring stays. By 2 all go, rising.
        web = made_web(5, [(0, 4, 1), (2, 4, 1), (1, 2, 1), (2, 3, 1), (1, 3, 1)])
        self.assertEqual(peeled(web, whole(web), 1), ((0, 4), (1, 2, 3)))
        self.assertEqual(peeled(web, whole(web), 2), ((0, 1, 2, 3, 4), ()))
        # The greatest place goes first, and then the least one left, again from the beginning.
        web = made_web(5, [(3, 4, 1), (1, 3, 1), (0, 1, 1), (0, 2, 1), (1, 2, 1)])
        self.assertEqual(peeled(web, whole(web), 1), ((4, 3), (0, 1, 2)))
        web = made_web(4, [(0, 1, 1), (0, 2, 1), (0, 3, 1)])
        self.assertEqual(peeled(web, whole(web), 1), ((1, 2, 0, 3), ()))

    def test_by_none_those_without_kept_ties(self):
        web = made_web(5, [(0, 1, 1), (1, 3, 1), (2, 4, 1)])
        self.assertEqual(peeled(web, whole(web), 0), ((), (0, 1, 2, 3, 4)))
        self.assertEqual(peeled(web, (1,), 0), ((0, 2, 4), (1, 3)))
        self.assertEqual(peeled(web, (), 0), ((0, 1, 2, 3, 4), ()))
        self.assertEqual(peeled((1, ()), (), 0), ((0,), ()))
        self.assertEqual(peeled((24, ()), (), 0), (tuple(range(24)), ()))

    def test_by_great_numbers(self):
        for web in (full_web(11), ring_web(24), great_webs()[0]):
            self.assertEqual(peeled(web, whole(web), 10 ** 59), (tuple(range(web[0])), ()))

    def check(self, web, keep, d):
        order, core = peeled(web, keep, d)
        self.assertEqual((order, core), slow_peeled(web, keep, d))
        self.assertTrue(all_whole((order, core)))
        self.assertEqual(sorted(order + core), list(range(web[0])))
        self.assertEqual(list(core), sorted(core))
        for place in core:
            self.assertGreater(ties_to(web, keep, place, core), d)
        if core == ():
            self.assertLessEqual(len(keep), web[0] * d)
        return core

    def test_by_each_number_to_the_one_at_which_all_goes(self):
        for web, keep in webs_and_keeps(60, 8):
            cores = [self.check(web, keep, d) for d in range(8)]
            end = cores.index(())
            self.assertTrue(end == 0 or cores[end - 1] != ())
            self.assertEqual(cores[end:], [()] * (8 - end))

    def test_great_webs(self):
        for seed, web in enumerate(great_webs()):
            for keep in (whole(web), drawn_keep(Draw(seed), web), ()):
                for d in range(0, 11):
                    self.check(web, keep, d)


class ShareTest(unittest.TestCase):
    def test_against_the_sum_written_out(self):
        for n in range(1, 25):
            for k in range(1, 13):
                share = share_of(n, k)
                self.assertEqual(share, slow_share(n, k), (n, k))
                self.assertTrue(all_whole(share))

    def test_edges(self):
        # By 0 there are 2, by 1 there are 1 + 2 * k.
        for k in range(1, 13):
            self.assertEqual(share_of(1, k), 0)
            self.assertEqual(share_of(2, k), 1)
            self.assertEqual(share_of(2 * k, k), 1)
            self.assertEqual(share_of(2 * k + 1, k), 2)
        self.assertEqual([share_of(n, 1) for n in (1, 2, 3, 10, 24)], [0, 1, 2, 9, 23])
        self.assertEqual([share_of(n, 2) for n in (4, 5, 9, 10, 16, 17, 24)], [1, 2, 2, 3, 3, 4, 4])


class ToldTest(unittest.TestCase):
    def test_few_and_ring(self):
        web = full_web(4)
        self.assertEqual(few_told(web, whole(web), 1), ("few", (0, 1, 2, 3)))
        self.assertEqual(few_told(web, whole(web), 2), ("ring", (0, 1, 2)))
        self.assertEqual(few_told(web, (0, 1, 2), 2), ("few", (1, 2, 0, 3)))
        self.assertEqual(few_told(web, (0, 2, 3, 5), 2), ("ring", (0, 1, 2, 3)))
        self.assertEqual(few_told((1, ()), (), 12), ("few", (0,)))
        self.assertEqual(few_told(ring_web(24), whole(ring_web(24)), 11), ("few", tuple(range(24))))
        self.assertEqual(few_told(ring_web(24), whole(ring_web(24)), 12), ("ring", tuple(range(24))))

    def test_just_the_share_and_one_tie_more(self):
        # Five places and k 2: the share is 2. In a full web of four places each has 3.
        web = made_web(5, full_web(4)[1])
        self.assertEqual(few_told(web, whole(web), 2), ("ring", (0, 1, 2)))
        self.assertEqual(few_told(web, (0, 1, 2, 3, 4), 2), ("few", (2, 0, 1, 3, 4)))

    def check(self, web, keep, k, rings):
        told = few_told(web, keep, k)
        self.assertTrue(all_whole(told))
        self.assertIs(few_right(web, keep, k, told), True)
        order, core = slow_peeled(web, keep, slow_share(web[0], k))
        if core == ():
            self.assertEqual(told, ("few", order))
        else:
            least = min(len(ring) for ring in rings)
            self.assertLessEqual(least, 2 * k)
            self.assertEqual(told, ("ring", min(ring for ring in rings if len(ring) == least)))
        return told[0]

    def test_against_peeling_and_all_rings(self):
        words = []
        for web, keep in webs_and_keeps(60, 7) + [(web, whole(web)) for web in dense_webs()[:4]]:
            rings = slow_rings(web, keep)
            words.extend(self.check(web, keep, k, rings) for k in (1, 2, 3, 4, 12))
        self.assertGreater(words.count("ring"), 50)
        self.assertGreater(words.count("few"), 50)

    def test_great_webs(self):
        for seed, web in enumerate(great_webs() + dense_webs()):
            for keep in (whole(web), drawn_keep(Draw(seed), web)):
                for k in (1, 2, 3, 7, 12):
                    told = few_told(web, keep, k)
                    self.assertIs(few_right(web, keep, k, told), True)
                    self.assertEqual(told[0] == "few", slow_peeled(web, keep, slow_share(web[0], k))[1] == ())

    def test_what_the_rule_keeps_is_few(self):
        for web in drawn_webs(40, 8) + great_webs() + dense_webs():
            for k in range(1, 13):
                keep = ring_rule(web, 2 * k - 1)[0]
                self.assertEqual(few_told(web, keep, k)[0], "few")


class RightTest(unittest.TestCase):
    def test_any_order_of_all_places(self):
        # Four places and k 2: the share is 1.
        web = full_web(4)
        for keep in all_keeps(web):
            for order in permutations(range(4)):
                for k in (1, 2):
                    asked = slow_few_right(web, keep, k, ("few", order))
                    self.assertIs(few_right(web, keep, k, ("few", order)), asked, (keep, order))

    def test_an_order_of_not_all_places_or_of_more(self):
        web = made_web(4, [(0, 1, 1)])
        self.assertIs(few_right(web, (0,), 2, ("few", (3, 1, 0, 2))), True)
        for order in ((), (0, 1, 2), (0, 1, 2, 2), (0, 1, 2, 4), (-1, 0, 1, 2), (0, 1, 2, 3, 3), (0, 1, 2, 3, 4)):
            self.assertIs(few_right(web, (0,), 2, ("few", order)), False)
        self.assertIs(few_right(web, (0,), 2, ("few", (0, True, 2, 3))), False)

    def test_any_ring_of_at_most_twice_k(self):
        web = full_web(5)
        for keep in (whole(web), (0, 1, 2, 3, 4, 7, 9), (0, 3, 4, 7, 9), ()):
            rings = slow_rings(web, keep)
            for size in (3, 4, 5):
                for ring in permutations(range(5), size):
                    for k in (1, 2, 3):
                        asked = ring in rings and size <= 2 * k
                        self.assertIs(few_right(web, keep, k, ("ring", ring)), asked, (keep, ring, k))

    def test_a_ring_stands_also_where_few_are_kept(self):
        web = full_web(3)
        self.assertEqual(few_told(web, whole(web), 1)[0], "few")
        self.assertIs(few_right(web, whole(web), 2, ("ring", (0, 1, 2))), True)
        self.assertIs(few_right(web, whole(web), 1, ("ring", (0, 1, 2))), False)
        self.assertIs(few_right(ring_web(24), whole(ring_web(24)), 12, ("ring", tuple(range(24)))), True)
        self.assertIs(few_right(ring_web(24), whole(ring_web(24)), 11, ("ring", tuple(range(24)))), False)

    def test_one_thing_otherwise_at_each_place(self):
        for web, keep in webs_and_keeps(40):
            for k in (1, 2, 3):
                for paper in altered(few_told(web, keep, k)):
                    self.assertIs(few_right(web, keep, k, paper), slow_few_right(web, keep, k, paper), (web, paper))

    def test_whatever_tuples(self):
        for web, keep in webs_and_keeps(12):
            papers = [(), ("few",), ("ring",), ("few", (), ()), ("ring", (0, 1, 2), ()), ("other", ()), ((), ())]
            for odd in ODD_TUPLES:
                papers.extend([("few", odd), ("ring", odd), ("few", odd, odd)])
            for paper in papers:
                for k in (1, 2, 12):
                    self.assertIs(few_right(web, keep, k, paper), slow_few_right(web, keep, k, paper), paper)


class OwnTest(unittest.TestCase):
    def test_the_same_question_has_the_same_answer(self):
        for web in (full_web(6), great_webs()[2]):
            keep = whole(web)
            for ask in (lambda: peeled(web, keep, 2), lambda: few_told(web, keep, 2), lambda: few_told(web, keep, 1)):
                first = ask()
                self.assertIsInstance(first, tuple)
                self.assertEqual(ask(), first)
            self.assertEqual(keep, tuple(range(len(web[1]))))


if __name__ == "__main__":
    unittest.main()
