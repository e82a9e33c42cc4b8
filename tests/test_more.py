import unittest

from tests.helper import (
    ANYTHING, NOT_PLAIN, ODD_TUPLES, Draw, all_keeps, all_whole, altered, drawn_keep, full_web, great_plain_webs,
    plain_webs, ring_web, roofed, slow_fars, slow_hold, slow_led, slow_way,
)
from thinways.errors import NoPlain, ThinError
from thinways.more import least_more, more_paper, more_right
from thinways.webs import made_web, whole


def slow_more(web, keep):
    fars = slow_fars(web, keep)
    grown = []
    for u, row in enumerate(slow_fars(web, whole(web))):
        for v in range(u + 1, web[0]):
            if row[v] is not None:
                if fars[u][v] is None:
                    return None
                grown.append((fars[u][v] - row[v], u, v))
    most = max([more for more, u, v in grown], default=0)
    return (0, 0, 0) if most == 0 else min(row for row in grown if row[0] == most)


def slow_more_right(web, keep, m, paper):
    if len(paper) != web[0]:
        return False
    for u, pair in enumerate(paper):
        if not isinstance(pair, tuple) or len(pair) != 2:
            return False
        heights, tree = pair
        if not slow_hold(web, whole(web), heights) or heights[u] != 0:
            return False
        if not isinstance(tree, tuple) or len(tree) != web[0]:
            return False
        for place, height in enumerate(heights):
            steps = slow_led(web, keep, tree, u, place) if height < web[0] else 0
            if steps is None or (height < web[0] and steps > height + m):
                return False
    return True


def plain_keeps(count, most=6):
    told = []
    for seed, web in enumerate(plain_webs(count, most)):
        told.extend([(web, whole(web)), (web, drawn_keep(Draw(seed + 500), web)), (web, ())])
    return told


class LeastMoreTest(unittest.TestCase):
    def test_the_least_with_its_first_pair(self):
        # Ties 0: 0-1, 1: 0-4, 2: 1-2, 3: 2-3, 4: 3-4.
        web = ring_web(5)
        self.assertEqual(least_more(web, (0, 2, 3, 4)), (3, 0, 4))
        self.assertEqual(least_more(web, (0, 1, 2, 4)), (3, 2, 3))
        web = full_web(4)
        self.assertEqual(least_more(web, (0, 1, 2)), (1, 1, 2))
        self.assertEqual(least_more(web, (0, 3, 5)), (2, 0, 3))

    def test_where_nothing_grows(self):
        for web in plain_webs(12) + great_plain_webs():
            self.assertEqual(least_more(web, whole(web)), (0, 0, 0))
        self.assertEqual(least_more((1, ()), ()), (0, 0, 0))
        self.assertEqual(least_more((24, ()), ()), (0, 0, 0))

    def test_none_where_kept_ties_do_not_lead(self):
        self.assertIsNone(least_more(ring_web(5), (0, 2)))
        self.assertIsNone(least_more(made_web(2, [(0, 1, 1)]), ()))
        # Pieces of the web itself part nothing.
        web = made_web(6, [(0, 1, 1), (1, 2, 1), (0, 2, 1), (4, 5, 1)])
        self.assertEqual(least_more(web, (0, 1, 3)), (1, 1, 2))
        self.assertIsNone(least_more(web, (0, 1)))

    def test_against_every_two_places(self):
        told = []
        for web in plain_webs(24, 4):
            for keep in all_keeps(web):
                told.append(least_more(web, keep))
                self.assertEqual(told[-1], slow_more(web, keep))
                self.assertTrue(all_whole(told[-1]))
        for web, keep in plain_keeps(40, 8):
            told.append(least_more(web, keep))
            self.assertEqual(told[-1], slow_more(web, keep))
        self.assertGreater(len(set(told)), 8)

    def test_great_webs(self):
        for seed, web in enumerate(great_plain_webs()):
            for keep in (drawn_keep(Draw(seed), web), whole(web)[1:], whole(web)[:-1], ()):
                self.assertEqual(least_more(web, keep), slow_more(web, keep))
        self.assertEqual(least_more(ring_web(24), tuple(range(23))), (22, 22, 23))


class PaperTest(unittest.TestCase):
    def test_heights_in_the_web_and_tree_in_the_keep(self):
        web = made_web(3, [(0, 1, 1), (0, 2, 1), (1, 2, 1)])
        asked = (((0, 1, 1), (None, 0, 0)), ((1, 0, 1), (1, None, 0)), ((1, 1, 0), (2, 0, None)))
        self.assertEqual(more_paper(web, (0, 1)), asked)
        self.assertEqual(more_paper((1, ()), ()), (((0,), (None,)),))
        self.assertEqual(more_paper((2, ()), ()), (((0, 2), (None, None)), ((2, 0), (None, None))))

    def test_of_any_keep(self):
        for web, keep in plain_keeps(40):
            fars = slow_fars(web, whole(web))
            paper = more_paper(web, keep)
            self.assertTrue(all_whole(paper))
            self.assertEqual(len(paper), web[0])
            for u, (heights, tree) in enumerate(paper):
                self.assertEqual(heights, roofed(fars[u], web[0]))
                ways = [slow_way(web, keep, u, place) for place in range(web[0])]
                self.assertEqual(tree, tuple(way[-2] if way and len(way) > 1 else None for way in ways))

    def test_lets_by_just_from_the_least_on(self):
        for web, keep in plain_keeps(24) + [(web, whole(web)[2:]) for web in great_plain_webs()]:
            paper = more_paper(web, keep)
            least = slow_more(web, keep)
            for m in range(24):
                self.assertIs(more_right(web, keep, m, paper), least is not None and m >= least[0])
        self.assertIs(more_right(ring_web(24), tuple(range(23)), 22, more_paper(ring_web(24), tuple(range(23)))), True)


class RightTest(unittest.TestCase):
    def test_at_the_root_the_tree_is_not_looked_at(self):
        web = full_web(3)
        paper = more_paper(web, whole(web))
        for there in (None, 0, 1, 2, 3, -1, 10 ** 59, -10 ** 59):
            changed = tuple((heights, tree[:u] + (there,) + tree[u + 1:]) for u, (heights, tree) in enumerate(paper))
            self.assertIs(more_right(web, whole(web), 0, changed), True)

    def test_nor_where_no_way_leads(self):
        web = made_web(4, [(0, 1, 1), (2, 3, 1)])
        paper = more_paper(web, (0, 1))
        for there in (None, 0, 3, 4, -1, 10 ** 59):
            changed = (((0, 1, 4, 4), (None, 0, there, there)),) + paper[1:]
            self.assertIs(more_right(web, (0, 1), 0, changed), True)
            self.assertIs(more_right(web, (0, 1), 0, (((0, 1, 3, 4), (None, 0, there, there)),) + paper[1:]), False)

    def test_going_round_leads_nowhere(self):
        web = full_web(4)
        paper = more_paper(web, whole(web))
        for tree in ((None, 2, 1, 0), (None, 2, 3, 1), (None, 1, 0, 0), (None, 2, 1, 2), (3, 2, 1, 0)):
            self.assertIs(more_right(web, whole(web), 23, (((0, 1, 1, 1), tree),) + paper[1:]), False)
        for tree in ((None, 0, 1, 2), (None, 2, 3, 0), (3, 0, 1, 2)):
            for m in (0, 1, 2, 23):
                asked = m >= 2
                self.assertIs(more_right(web, whole(web), m, (((0, 1, 1, 1), tree),) + paper[1:]), asked)

    def test_along_kept_ties_alone(self):
        # Ties 0: 0-1, 1: 0-2, 2: 1-2: without 1 the place 2 leads by 1.
        web = full_web(3)
        paper = more_paper(web, (0, 2))
        self.assertEqual(paper[0], ((0, 1, 1), (None, 0, 1)))
        self.assertIs(more_right(web, (0, 2), 1, paper), True)
        self.assertIs(more_right(web, (0, 2), 1, (((0, 1, 1), (None, 0, 0)),) + paper[1:]), False)

    def test_lower_heights_ask_for_shorter_ways(self):
        web = full_web(3)
        paper = more_paper(web, whole(web))
        for heights in ((0, 0, 1), (0, 1, 0), (0, -1, 0), (0, 0, 0)):
            other = ((heights, paper[0][1]),) + paper[1:]
            for m in (0, 1, 2):
                self.assertIs(more_right(web, whole(web), m, other), m >= 1 - min(heights[1:]))

    def test_one_thing_otherwise_at_each_place(self):
        lets = {True: 0, False: 0}
        for web, keep in plain_keeps(16, 5):
            paper = more_paper(web, keep)
            least = slow_more(web, keep)
            for m in (0, 1, 3) if least is None else (least[0], least[0] + 1):
                for other in altered(paper, (0, 1, -1, 10 ** 59), (None,)):
                    right = more_right(web, keep, m, other)
                    self.assertIs(right, slow_more_right(web, keep, m, other), (web, keep, m, other))
                    lets[right] += 1
                    self.assertTrue(not right or (least is not None and least[0] <= m))
        self.assertGreater(lets[True], 50)
        self.assertGreater(lets[False], 1000)

    def test_whatever_tuples(self):
        for web, keep in plain_keeps(8, 5):
            paper = more_paper(web, keep)
            papers = [(), ((),), ((), ()), ((),) * web[0], (((), ()),) * web[0], (((),),) * web[0], paper * 2]
            for odd in ODD_TUPLES + ((None,) * web[0], (None,), (None,) * 400, tuple(range(web[0]))):
                papers.extend([((odd, odd),) * web[0], tuple((heights, odd) for heights, tree in paper)])
                papers.extend([tuple((odd, tree) for heights, tree in paper), (odd,) * web[0], ((odd, odd),) * 400])
            for other in papers:
                for m in (0, 1, 23, 10 ** 59):
                    asked = slow_more_right(web, keep, m, other)
                    self.assertIs(more_right(web, keep, m, other), asked, (web, keep, m, other))


class NoPlainTest(unittest.TestCase):
    def test_ahead_of_all_others(self):
        for web in NOT_PLAIN:
            for thing in ((), (0,)) + ANYTHING:
                for ask in (lambda: least_more(web, thing), lambda: more_paper(web, thing),
                            lambda: more_right(web, (), 0, thing), lambda: more_right(web, thing, thing, thing)):
                    with self.assertRaises(NoPlain) as caught:
                        ask()
                    self.assertIsInstance(caught.exception, ThinError)


class OwnTest(unittest.TestCase):
    def test_the_same_question_has_the_same_answer(self):
        for web in (full_web(6), great_plain_webs()[0]):
            keep = whole(web)[1:]
            for ask in (lambda: least_more(web, keep), lambda: more_paper(web, keep)):
                first = ask()
                self.assertIsInstance(first, tuple)
                self.assertEqual(ask(), first)
            self.assertEqual(keep, tuple(range(1, len(web[1]))))


if __name__ == "__main__":
    unittest.main()
