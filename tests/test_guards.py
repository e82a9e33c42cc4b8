import unittest
from itertools import permutations

from tests.helper import (
    ANYTHING, NO_SHARES, NOT_PLAIN, ODD_TUPLES, Draw, all_keeps, all_whole, altered, drawn_keep, full_web,
    great_plain_webs, is_number, neighbours_of, outside, plain_webs, ring_web,
)
from tests.test_more import slow_more
from tests.test_posts import slow_posts_right
from thinways.errors import NoPlain, NoShare, ThinError
from thinways.guards import guard_keep, guards_by, guards_right, two_paper, two_right
from thinways.posts import post_paper, post_trees
from thinways.webs import is_keep, made_web, whole

# Place 3 is tied to all others; a ring 0-1-2 beside it.
WHEEL = made_web(6, [(3, 0, 1), (3, 1, 1), (3, 2, 1), (3, 4, 1), (3, 5, 1), (0, 1, 1), (1, 2, 1), (0, 2, 1)])


def slow_guards(web, d, places):
    """The document's own steps, again and again the first of these places that is due."""
    guarded = set()
    told = []

    def bare(place):
        return [other for other in neighbours_of(web, place) if other not in guarded]

    while True:
        due = [place for place in places if len(bare(place)) >= d]
        if not due:
            return tuple(told)
        told.append((due[0], tuple(bare(due[0]))))
        guarded = guarded | set(bare(due[0]))


def slow_guards_right(web, d, told):
    guarded = []
    for pair in told:
        if not isinstance(pair, tuple) or len(pair) != 2 or not is_number(pair[0]) or not isinstance(pair[1], tuple):
            return False
        guard, places = pair
        if guard not in range(web[0]) or list(places) != sorted(set(places)) or len(places) < d:
            return False
        if not all(place in neighbours_of(web, guard) for place in places):
            return False
        guarded.extend(places)
    if len({guard for guard, places in told}) < len(told) or len(set(guarded)) < len(guarded):
        return False
    return all(len(set(neighbours_of(web, place)) - set(guarded)) < d for place in range(web[0]))


def guard_names(told):
    return {place: guard for guard, places in told for place in places}


def slow_keep(web, told):
    names = guard_names(told)
    bare = {tie for tie, (a, b, length) in enumerate(web[1]) if a not in names or b not in names}
    posts = tuple(sorted(guard for guard, places in told))
    return tuple(sorted(bare | set(post_trees(web, posts)))), bare


def slow_two_right(web, keep, paper):
    if len(paper) != 3:
        return False
    posts, heights, sides = paper
    if list(posts) != sorted(set(posts)) or not set(posts) <= set(range(web[0])):
        return False
    if not slow_posts_right(web, keep, posts, heights) or len(sides) != len(outside(web, keep)):
        return False
    for tie, side in zip(outside(web, keep), sides):
        if not isinstance(side, tuple) or len(side) != 2 or side[0] not in web[1][tie][:2] or side[1] not in posts:
            return False
        if side[0] != side[1] and side[0] not in neighbours_of(web, side[1]):
            return False
    return True


def right_guards(web, seed):
    """(d, guards) that are right: the told ones, turned about, and those of places walked otherwise."""
    draw = Draw(seed)
    places = list(range(web[0]))
    mixed = []
    while places:
        mixed.append(places.pop(draw.below(len(places))))
    told = []
    for d in (1, 2, 3, 4):
        told.extend([(d, guards_by(web, d)), (d, guards_by(web, d)[::-1]), (d, slow_guards(web, d, mixed))])
    return told


class GuardsByTest(unittest.TestCase):
    def test_each_time_the_least_place(self):
        # Ties 0: 0-1, 0-2, 0-3, 1-2, 1-3, 2-3, 3-4, 3-5.
        self.assertEqual(guards_by(WHEEL, 1), ((0, (1, 2, 3)), (1, (0,)), (3, (4, 5))))
        self.assertEqual(guards_by(WHEEL, 2), ((0, (1, 2, 3)), (3, (0, 4, 5))))
        self.assertEqual(guards_by(WHEEL, 3), ((0, (1, 2, 3)), (3, (0, 4, 5))))
        self.assertEqual(guards_by(WHEEL, 4), ((3, (0, 1, 2, 4, 5)),))
        self.assertEqual(guards_by(WHEEL, 5), ((3, (0, 1, 2, 4, 5)),))
        self.assertEqual(guards_by(WHEEL, 6), ())
        self.assertEqual(guards_by(WHEEL, 10 ** 59), ())
        self.assertEqual(guards_by((1, ()), 1), ())
        self.assertEqual(guards_by(full_web(2), 1), ((0, (1,)), (1, (0,))))

    def check(self, web, d):
        told = guards_by(web, d)
        self.assertEqual(told, slow_guards(web, d, range(web[0])))
        self.assertTrue(all_whole(told))
        self.assertIs(guards_right(web, d, told), True)
        self.assertLessEqual(d * len(told), web[0])

    def test_against_the_documents_own_steps(self):
        for web in plain_webs(48, 8) + great_plain_webs():
            for d in (1, 2, 3, 4, 5, 8):
                self.check(web, d)

    def test_no_share(self):
        for d in NO_SHARES:
            for web in (WHEEL, (1, ())):
                for ask in (lambda: guards_by(web, d), lambda: guards_right(web, d, ()),
                            lambda: guards_right(web, d, "wrong")):
                    with self.assertRaises(NoShare) as caught:
                        ask()
                    self.assertIsInstance(caught.exception, ThinError)


class GuardsRightTest(unittest.TestCase):
    def test_in_any_order(self):
        for web in plain_webs(24) + [WHEEL]:
            for d in (1, 2):
                for told in permutations(guards_by(web, d)[:4]):
                    told = told + guards_by(web, d)[4:]
                    self.assertIs(guards_right(web, d, told), True)

    def test_other_guards(self):
        for seed, web in enumerate(plain_webs(32, 8)):
            for by, told in right_guards(web, seed):
                for d in range(1, 6):
                    self.assertIs(guards_right(web, d, told), slow_guards_right(web, d, told), (web, d, told))

    def test_no_place_has_so_many_that_nobody_guards(self):
        web = full_web(4)
        self.assertIs(guards_right(web, 3, ((1, (0, 2, 3)),)), True)
        self.assertIs(guards_right(web, 2, ((1, (0, 2, 3)),)), True)
        # Each of the others has one neighbour, 1, that nobody guards.
        self.assertIs(guards_right(web, 1, ((1, (0, 2, 3)),)), False)
        self.assertIs(guards_right(web, 1, ((1, (0, 2, 3)), (0, (1,)))), True)
        self.assertIs(guards_right(web, 4, ()), True)
        self.assertIs(guards_right(web, 3, ()), False)

    def test_fewer_than_all_of_the_neighbours(self):
        # A guard need not guard all that it could, if those left are few enough.
        self.assertIs(guards_right(WHEEL, 4, ((3, (0, 1, 4, 5)),)), True)
        self.assertIs(guards_right(WHEEL, 4, ((3, (0, 1, 2, 4)),)), True)
        self.assertIs(guards_right(WHEEL, 4, ((3, (0, 1, 4)),)), False)
        self.assertIs(guards_right(WHEEL, 3, ((3, (0, 1, 4)),)), True)

    def test_one_guard_twice_and_one_place_twice(self):
        web = full_web(6)
        self.assertIs(guards_right(web, 2, ((0, (1, 2)), (1, (0, 3)), (2, (4, 5)))), True)
        self.assertIs(guards_right(web, 2, ((0, (1, 2)), (0, (3, 4)), (2, (0, 5)))), False)
        self.assertIs(guards_right(web, 2, ((0, (1, 2)), (1, (2, 3)), (2, (4, 5)))), False)
        self.assertIs(guards_right(web, 2, ((0, (1, 2, 2)), (1, (0, 3)), (2, (4, 5)))), False)
        self.assertIs(guards_right(web, 2, ((0, (2, 1)), (1, (0, 3)), (2, (4, 5)))), False)
        self.assertIs(guards_right(web, 2, ((0, (0, 2)), (1, (3,)), (2, (4, 5)))), False)

    def test_true_and_false_and_lists(self):
        web = full_web(4)
        self.assertIs(guards_right(web, 3, ((1, (0, 2, 3)),)), True)
        for told in (((True, (0, 2, 3)),), ((1, (False, 2, 3)),), ((1, [0, 2, 3]),), ([1, (0, 2, 3)],),
                     [(1, (0, 2, 3))]):
            self.assertIs(guards_right(web, 3, told), False)

    def test_one_thing_otherwise_at_each_place(self):
        lets = {True: 0, False: 0}
        for seed, web in enumerate(plain_webs(24) + [WHEEL]):
            for d, told in right_guards(web, seed):
                for other in altered(told):
                    right = guards_right(web, d, other)
                    self.assertIs(right, slow_guards_right(web, d, other), (web, d, other))
                    lets[right] += 1
        self.assertGreater(lets[True], 20)
        self.assertGreater(lets[False], 1000)

    def test_whatever_tuples(self):
        for web in plain_webs(12) + [WHEEL]:
            papers = [(), ((),), ((0,),), ((0, ()),), ((0, (), ()),), ((0, ()),) * 400]
            for odd in ODD_TUPLES:
                for guard in (0, 1, -1, 24, 10 ** 59, -10 ** 59):
                    papers.extend([((guard, odd),), ((guard, odd), (0, (1,))), guards_by(web, 1) + ((guard, odd),)])
            for paper in papers:
                for d in (1, 2, 10 ** 59):
                    self.assertIs(guards_right(web, d, paper), slow_guards_right(web, d, paper), paper)


class GuardKeepTest(unittest.TestCase):
    def test_ties_with_an_end_that_nobody_guards_and_trees(self):
        # By 4 the guard 3 guards all but itself: its tree has ties 2, 4, 5, 6, 7; no others have a bare end.
        self.assertEqual(guard_keep(WHEEL, guards_by(WHEEL, 4)), (2, 4, 5, 6, 7))
        self.assertEqual(guard_keep(WHEEL, ()), whole(WHEEL))
        # 2 is guarded by nobody: its ties 1, 3 and 5 are kept as well, 0 isn't.
        self.assertEqual(guard_keep(WHEEL, ((3, (0, 1, 4, 5)),)), (1, 2, 3, 4, 5, 6, 7))
        self.assertEqual(guard_keep((1, ()), ()), ())

    def check(self, web, d, told):
        keep = guard_keep(web, told)
        asked, bare = slow_keep(web, told)
        self.assertEqual(keep, asked)
        self.assertTrue(all_whole(keep))
        self.assertTrue(is_keep(web, keep))
        self.assertLessEqual(len(bare), web[0] * (d - 1))
        more = slow_more(web, keep)
        self.assertIsNotNone(more)
        self.assertLessEqual(more[0], 2)
        return more[0]

    def test_of_more_two_by_whatever_d(self):
        mores = []
        for seed, web in enumerate(plain_webs(40, 8) + great_plain_webs()):
            for d, told in right_guards(web, seed):
                mores.append(self.check(web, d, told))
        self.assertEqual(sorted(set(mores)), [0, 1, 2])


class TwoPaperTest(unittest.TestCase):
    def test_the_lesser_end_with_its_guard(self):
        paper = ((3,), ((1, 1, 1, 0, 1, 1),), ((0, 3), (0, 3), (1, 3)))
        self.assertEqual(two_paper(WHEEL, guards_by(WHEEL, 4)), paper)
        self.assertEqual(two_paper(WHEEL, ()), ((), (), ()))
        self.assertEqual(two_paper((1, ()), ()), ((), (), ()))

    def check(self, web, told):
        keep = guard_keep(web, told)
        paper = two_paper(web, told)
        names = guard_names(told)
        posts = tuple(sorted(guard for guard, places in told))
        sides = tuple((web[1][tie][0], names[web[1][tie][0]]) for tie in outside(web, keep))
        self.assertEqual(paper, (posts, post_paper(web, posts), sides))
        self.assertTrue(all_whole(paper))
        self.assertIs(two_right(web, keep, paper), True)
        return len(sides)

    def test_told_and_judged(self):
        sides = 0
        for seed, web in enumerate(plain_webs(40, 8) + great_plain_webs()):
            for d, told in right_guards(web, seed):
                sides = sides + self.check(web, told)
        self.assertGreater(sides, 200)


class TwoRightTest(unittest.TestCase):
    def test_either_end_and_any_post_beside(self):
        # Posts 0 and 3: each end of the ties outside is a post or tied to one.
        keep = post_trees(WHEEL, (0, 3))
        self.assertEqual(keep, (0, 1, 2, 4, 5, 6, 7))
        heights = post_paper(WHEEL, (0, 3))
        for side in ((1, 0), (1, 3), (2, 0), (2, 3)):
            self.assertIs(two_right(WHEEL, keep, ((0, 3), heights, (side,))), True)
        for side in ((0, 0), (0, 3), (3, 3), (4, 3), (1, 1), (1, 2), (2, 1), (3, 1), (-1, 0), (1, -3), (10 ** 59, 3)):
            self.assertIs(two_right(WHEEL, keep, ((0, 3), heights, (side,))), False, side)
        self.assertIs(two_right(WHEEL, keep, ((0, 3), heights, ((True, 0),))), False)
        self.assertIs(two_right(WHEEL, keep, ((0, 3), heights, ((1, False),))), False)

    def test_a_tie_left_out_beside_a_post(self):
        # A post's own ties are all kept where its paper is right: so (post, post) never helps a tie outside.
        web = ring_web(4)
        heights = post_paper(web, (0,))
        self.assertEqual(outside(web, post_trees(web, (0,))), (3,))
        for side, asked in (((3, 0), True), ((2, 0), False), ((0, 0), False)):
            self.assertIs(two_right(web, (0, 1, 2), ((0,), heights, (side,))), asked)
        for keep in all_keeps(web):
            for end in range(4):
                paper = ((0,), heights, ((end, 0),) * len(outside(web, keep)))
                self.assertIs(two_right(web, keep, paper), slow_two_right(web, keep, paper))

    def test_posts_that_are_none(self):
        keep = post_trees(WHEEL, (0, 3))
        heights = post_paper(WHEEL, (0, 3))
        sides = ((1, 0),)
        self.assertIs(two_right(WHEEL, keep, ((0, 3), heights, sides)), True)
        for posts in ((3, 0), (0, 0), (0, 3, 3), (0, 6), (-6, 3), (-3, 0), (0, 10 ** 59), (), (False, 3)):
            self.assertIs(two_right(WHEEL, keep, (posts, heights, sides)), False, posts)
            self.assertIs(two_right(WHEEL, keep, (posts, heights[:1] * len(posts), sides)), False, posts)
        self.assertIs(two_right(WHEEL, keep, ((0,), heights, sides)), False)
        self.assertIs(two_right(WHEEL, keep, ((0,), heights[:1], sides)), True)
        self.assertIs(two_right(WHEEL, keep, ((3, 0), heights[::-1], sides)), False)

    def test_one_thing_otherwise_at_each_place(self):
        lets = {True: 0, False: 0}
        for seed, web in enumerate(plain_webs(24, 5) + [WHEEL]):
            for d, told in right_guards(web, seed)[:9]:
                keep = guard_keep(web, told)
                for other in altered(two_paper(web, told)):
                    right = two_right(web, keep, other)
                    self.assertIs(right, slow_two_right(web, keep, other), (web, keep, other))
                    lets[right] += 1
        self.assertGreater(lets[False], 1000)
        self.assertGreater(lets[True], 20)

    def test_any_keep_that_is_let_by_is_of_more_two(self):
        lets = 0
        for seed, web in enumerate(plain_webs(32, 5) + [WHEEL]):
            for d, told in right_guards(web, seed)[:9]:
                posts, heights, sides = two_paper(web, told)
                names = guard_names(told)
                for keep in all_keeps(web)[:200] + [drawn_keep(Draw(seed), web)]:
                    ends = [web[1][tie][0] for tie in outside(web, keep)]
                    paper = (posts, heights, tuple((end, names.get(end, 0)) for end in ends))
                    right = two_right(web, keep, paper)
                    self.assertIs(right, slow_two_right(web, keep, paper))
                    lets = lets + right
                    self.assertTrue(not right or slow_more(web, keep)[0] <= 2)
        self.assertGreater(lets, 100)

    def test_whatever_tuples(self):
        for seed, web in enumerate(plain_webs(10, 5)):
            keep = guard_keep(web, guards_by(web, 2))
            posts, heights, sides = two_paper(web, guards_by(web, 2))
            papers = [(), ((),), ((), ()), ((), (), ()), ((), (), (), ()), (posts, heights, ((),) * len(sides))]
            for odd in ODD_TUPLES:
                papers.extend([(odd, heights, sides), (posts, (odd,) * len(posts), sides), (posts, heights, (odd,))])
                papers.extend([(posts, heights, (odd,) * len(sides)), (odd, (odd,) * len(odd), (odd,)), (odd, (), ())])
            for paper in papers:
                for kept in (keep, whole(web), ()):
                    asked = slow_two_right(web, kept, paper)
                    self.assertIs(two_right(web, kept, paper), asked, (web, kept, paper))


class NoPlainTest(unittest.TestCase):
    def test_ahead_of_all_others(self):
        for web in NOT_PLAIN:
            for thing in ANYTHING + (1, 2):
                for ask in (lambda: guards_by(web, thing), lambda: guards_right(web, thing, ()),
                            lambda: guards_right(web, 1, thing), lambda: guard_keep(web, thing),
                            lambda: two_paper(web, thing), lambda: two_right(web, (), thing),
                            lambda: two_right(web, thing, thing)):
                    with self.assertRaises(NoPlain):
                        ask()


class OwnTest(unittest.TestCase):
    def test_the_same_question_has_the_same_answer(self):
        for web in (WHEEL, great_plain_webs()[0]):
            told = guards_by(web, 2)
            for ask in (lambda: guards_by(web, 2), lambda: guard_keep(web, told), lambda: two_paper(web, told)):
                first = ask()
                self.assertIsInstance(first, tuple)
                self.assertEqual(ask(), first)


if __name__ == "__main__":
    unittest.main()
