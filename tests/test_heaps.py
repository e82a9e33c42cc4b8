import unittest

from tests.helper import (
    ANYTHING, NO_SHARES, NOT_PLAIN, ODD_TUPLES, Draw, all_whole, altered, drawn_web, full_web, great_plain_webs,
    plain_webs, ring_web, slow_fars, slow_ties,
)
from tests.test_guards import guard_names, slow_guards
from tests.test_more import slow_more
from thinways.errors import NoPlain, NoShare, ThinError
from thinways.heaps import six_right, six_told
from thinways.more import more_paper, more_right
from thinways.ways import the_way
from thinways.webs import is_keep, made_web, tie_between, whole


def handles(long):
    """Guards 0 and 1, a tie 2-3 between their heaps, and a row of so many places from the one guard to the other.

    By 3 the tie 2-3 alone isn't kept at first; round by the row its ends are long + 2 ties further.
    """
    row = [0] + list(range(8, 8 + long)) + [1]
    ties = [(0, 2, 1), (0, 4, 1), (0, 5, 1), (1, 3, 1), (1, 6, 1), (1, 7, 1), (2, 3, 1)]
    return made_web(8 + long, ties + [(a, b, 1) for a, b in zip(row, row[1:])])


def slow_first(web, guards):
    names = guard_names(guards)
    bare = {tie for tie, (a, b, length) in enumerate(web[1]) if a not in names or b not in names}
    return bare | {tie_between(web, place, guard) for place, guard in names.items()}


def slow_gained(web, kept, guards, way):
    fars = slow_fars(web, sorted(kept))
    gained = []
    for one, heap in guards:
        for other, places in guards:
            if one >= other:
                continue
            along = [abs(way.index(x) - way.index(y)) for x in heap for y in places if x in way and y in way]
            ahead = [fars[x][y] for x in heap for y in places if fars[x][y] is not None]
            if any(all(near < far for far in ahead) for near in along):
                gained.append((one, other))
    return tuple(sorted(gained))


def slow_six(web, d):
    """Pair by pair, as the document words it."""
    guards = slow_guards(web, d, range(web[0]))
    kept = slow_first(web, guards)
    near = slow_fars(web, whole(web))
    fars = slow_fars(web, sorted(kept))
    ledger = []
    for u in range(web[0]):
        for v in range(u + 1, web[0]):
            if near[u][v] is None or (fars[u][v] is not None and fars[u][v] <= near[u][v] + 6):
                continue
            way = the_way(web, whole(web), u, v)
            new = slow_ties(web, way) - kept
            ledger.append((u, v, len(new), slow_gained(web, kept, guards, way)))
            kept = kept | new
            fars = slow_fars(web, sorted(kept))
    return (tuple(sorted(kept)), tuple(ledger))


def drawn_plain(count):
    """Webs of many places and of few ties for them, so that heaps lie apart."""
    told = []
    for seed in range(count):
        draw = Draw(seed + 31)
        n = 6 + draw.below(19)
        told.append(drawn_web(draw, n, n - 2 + draw.below(8 + n), 1))
    return told


class ToldTest(unittest.TestCase):
    def test_what_is_kept_at_first(self):
        # By 4 in a web of few ties nobody is guarded: all is kept and nothing bought.
        self.assertEqual(six_told(ring_web(9), 4), (tuple(range(9)), ()))
        self.assertEqual(six_told((1, ()), 1), ((), ()))
        self.assertEqual(six_told((24, ()), 10 ** 59), ((), ()))
        # One guard guards all but itself: the ties to it alone are kept.
        self.assertEqual(six_told(full_web(5), 4), ((0, 1, 2, 3), ()))
        # By 1 also the guard is guarded, by 1, which ties them once more.
        self.assertEqual(six_told(full_web(5), 1), ((0, 1, 2, 3), ()))

    def test_more_than_six_further(self):
        # Six further it isn't bought, seven further it is.
        for long in (3, 4):
            web = handles(long)
            tie = tie_between(web, 2, 3)
            self.assertEqual(six_told(web, 3), (tuple(other for other in whole(web) if other != tie), ()))
        for long in (5, 6):
            web = handles(long)
            self.assertEqual(six_told(web, 3), (whole(web), ((2, 3, 1, ((0, 1),)),)))
        # Of several pairs that are too far the first as a pair is bought: from 0 to 3 seven further, then from 0 to 1.
        self.assertEqual(six_told(handles(7), 3)[1], ((0, 3, 1, ((0, 1),)),))
        self.assertEqual(six_told(handles(9), 3)[1], ((0, 1, 1, ((0, 1),)),))

    def test_where_the_kept_ties_do_not_lead(self):
        # Two stars, 0 and 1, tied at their leaves 2-5 alone: the way from 0 to 1 is bought, its middle tie is new.
        web = made_web(8, [(0, 2, 1), (0, 3, 1), (0, 4, 1), (1, 5, 1), (1, 6, 1), (1, 7, 1), (2, 5, 1)])
        self.assertEqual(six_told(web, 3), (whole(web), ((0, 1, 1, ((0, 1),)),)))

    def check(self, web, d):
        told = six_told(web, d)
        self.assertEqual(told, slow_six(web, d), (web, d))
        self.assertTrue(all_whole(told))
        keep, ledger = told
        self.assertTrue(is_keep(web, keep))
        more = slow_more(web, keep)
        self.assertTrue(more is not None and more[0] <= 6)
        self.assertIs(more_right(web, keep, 6, more_paper(web, keep)), True)
        guards = slow_guards(web, d, range(web[0]))
        self.assertLessEqual(len(slow_first(web, guards)), len(keep))
        times = {}
        for u, v, cost, gained in ledger:
            self.assertTrue(0 <= u < v < web[0] and cost > 0 and gained)
            self.assertLessEqual(cost, 3 * len(gained) + 2)
            for pair in gained:
                times[pair] = times.get(pair, 0) + 1
        self.assertLessEqual(max(times.values(), default=0), 5)
        many = len(guards)
        self.assertLessEqual(2 * sum(row[2] for row in ledger), 25 * many * (many - 1))
        self.assertEqual(len(keep), len(slow_first(web, guards)) + sum(row[2] for row in ledger))
        self.assertIs(six_right(web, d, told), True)
        return len(ledger)

    def test_pair_by_pair(self):
        bought = []
        for web in drawn_plain(60) + plain_webs(24, 8):
            bought.extend(self.check(web, d) for d in (1, 2, 3, 4))
        self.assertGreater(sum(bought), 60)
        self.assertGreater(max(bought), 3)

    def test_great_webs(self):
        for web in great_plain_webs() + [handles(long) for long in (5, 9, 16)]:
            for d in (1, 2, 3, 5, 24):
                self.check(web, d)

    def test_heaps_that_lie_on_the_way(self):
        # Three stars in a row, each tied to the next at a leaf: with the last one two pairs of guards are gained.
        web = made_web(12, [(0, 3, 1), (0, 4, 1), (0, 5, 1), (1, 6, 1), (1, 7, 1), (1, 8, 1), (2, 9, 1), (2, 10, 1),
                            (2, 11, 1), (5, 6, 1), (6, 9, 1)])
        keep, ledger = six_told(web, 3)
        self.assertEqual((keep, ledger), (whole(web), ((0, 1, 1, ((0, 1),)), (0, 2, 1, ((0, 2), (1, 2))))))


class RightTest(unittest.TestCase):
    def papers(self):
        for web in [handles(5), handles(4), handles(12), ring_web(9), full_web(5), (1, ())] + drawn_plain(12):
            for d in (1, 2, 3):
                yield web, d, six_told(web, d)

    def test_one_thing_otherwise_at_each_place(self):
        bought = 0
        for web, d, told in self.papers():
            bought = bought + len(told[1])
            self.assertIs(six_right(web, d, told), True)
            others = list(altered(told))
            for other in others[::1 + len(others) // 40]:
                self.assertIs(six_right(web, d, other), False, (web, d, other))
        self.assertGreater(bought, 8)

    def test_each_place_of_one_paper(self):
        web = handles(5)
        for other in altered(six_told(web, 3)):
            self.assertIs(six_right(web, 3, other), False, other)

    def test_by_another_share(self):
        web = handles(5)
        self.assertIs(six_right(web, 3, six_told(web, 3)), True)
        self.assertIs(six_right(web, 10 ** 59, six_told(web, 3)), False)
        self.assertIs(six_right(web, 10 ** 59, (whole(web), ())), True)

    def test_true_and_false_are_no_numbers(self):
        web = handles(5)
        keep, ledger = six_told(web, 3)
        self.assertEqual(ledger, ((2, 3, 1, ((0, 1),)),))
        for other in (((False,) + keep[1:], ledger), (keep, ((2, 3, True, ((0, 1),)),)),
                      (keep, ((2, 3, 1, ((False, True),)),))):
            self.assertIs(six_right(web, 3, other), False)

    def test_whatever_tuples(self):
        for web, d, told in list(self.papers())[:18:2]:
            keep, ledger = told
            papers = [(), ((),), ((), (), ()), (keep,), told + ((),), (keep, ((),)), (ledger, keep)]
            for odd in ODD_TUPLES:
                papers.extend([(keep, (odd,)), (keep, ((0, 1, 1, (odd,)),)), (odd, ((0, 1, 1, odd),))])
                papers.extend([(odd + (60,), ledger), (keep, ledger + ((0, 1, 1, (odd,)),))])
            for paper in papers:
                self.assertIs(six_right(web, d, paper), paper == told, paper)


class RefusedTest(unittest.TestCase):
    def test_no_share(self):
        for d in NO_SHARES:
            for ask in (lambda: six_told(ring_web(4), d), lambda: six_right(ring_web(4), d, ((), ())),
                        lambda: six_right(ring_web(4), d, "wrong")):
                with self.assertRaises(NoShare) as caught:
                    ask()
                self.assertIsInstance(caught.exception, ThinError)

    def test_behind_no_plain(self):
        for web in NOT_PLAIN:
            for d in NO_SHARES + (1, 2, 10 ** 59):
                for ask in (lambda: six_told(web, d), lambda: six_right(web, d, ((), ()))):
                    with self.assertRaises(NoPlain):
                        ask()
            for told in ANYTHING:
                with self.assertRaises(NoPlain):
                    six_right(web, 1, told)


class OwnTest(unittest.TestCase):
    def test_the_same_question_has_the_same_answer(self):
        for web in (handles(9), great_plain_webs()[4]):
            first = six_told(web, 2)
            self.assertIsInstance(first, tuple)
            self.assertEqual(six_told(web, 2), first)


if __name__ == "__main__":
    unittest.main()
