import unittest

from tests.helper import (
    ODD_TUPLES, Draw, all_whole, drawn_keep, drawn_webs, full_web, great_webs, ring_web, slow_far, slow_fars,
    slow_length, slow_ties, slow_way, tied, ways_between, webs_and_keeps,
)
from thinways.webs import made_web, whole
from thinways.ways import far, pieces, the_way, tree_from, way_length, way_right

SMALL = made_web(5, [(0, 1, 2), (0, 2, 5), (1, 2, 3), (2, 3, 10 ** 18)])


def is_stretch(part, way):
    return any(way[start:start + len(part)] == part for start in range(len(way) - len(part) + 1))


class WayRightTest(unittest.TestCase):
    def test_right_ways(self):
        for way in ((0,), (4,), (0, 1), (1, 0), (0, 1, 2, 3), (3, 2, 0, 1)):
            self.assertIs(way_right(SMALL, whole(SMALL), way), True, way)

    def test_wrong_ways(self):
        for way in ((), (5,), (-1,), (0, 0), (0, 1, 0), (0, 3), (0, 1, 3), (0, 1, 2, 0), (4, 0), (-1, 0), (0, -5),
                    (0, 10 ** 59), (3, 4)):
            self.assertIs(way_right(SMALL, whole(SMALL), way), False, way)

    def test_by_kept_ties_alone(self):
        self.assertIs(way_right(SMALL, (0, 3), (0, 1)), True)
        self.assertIs(way_right(SMALL, (0, 3), (0, 2)), False)
        self.assertIs(way_right(SMALL, (0, 3), (0, 1, 2)), False)
        self.assertIs(way_right(SMALL, (), (0, 1)), False)
        self.assertIs(way_right(SMALL, (), (3,)), True)

    def test_true_and_false_are_no_places(self):
        for way in ((True,), (False,), (0, True), (False, 1)):
            self.assertIs(way_right(SMALL, whole(SMALL), way), False, way)

    def test_whatever_tuples(self):
        for web, keep in webs_and_keeps(20):
            right = {way for a in range(web[0]) for b in range(web[0]) for way in ways_between(web, keep, a, b)}
            for way in ODD_TUPLES:
                self.assertIs(way_right(web, keep, way), way in right)
            for way in right:
                self.assertIs(way_right(web, keep, way), True)

    def test_length(self):
        self.assertEqual(way_length(SMALL, (4,)), 0)
        self.assertEqual(way_length(SMALL, (1, 0)), 2)
        self.assertEqual(way_length(SMALL, (0, 2, 1)), 8)
        self.assertEqual(way_length(SMALL, (3, 2, 1, 0)), 10 ** 18 + 5)


class FarTest(unittest.TestCase):
    def test_far(self):
        keep = whole(SMALL)
        self.assertEqual(far(SMALL, keep, 0, 0), 0)
        self.assertEqual(far(SMALL, keep, 0, 2), 5)
        self.assertEqual(far(SMALL, keep, 3, 0), 10 ** 18 + 5)
        self.assertIsNone(far(SMALL, keep, 0, 4))
        self.assertIsNone(far(SMALL, keep, 4, 0))
        self.assertEqual(far(SMALL, keep, 4, 4), 0)

    def test_in_a_keep(self):
        self.assertEqual(far(SMALL, (0, 1), 1, 2), 7)
        self.assertIsNone(far(SMALL, (0, 1), 1, 3))
        self.assertEqual(far(SMALL, (), 3, 3), 0)
        self.assertIsNone(far(SMALL, (), 0, 1))

    def test_against_all_ways(self):
        for web, keep in webs_and_keeps(60):
            for a in range(web[0]):
                for b in range(web[0]):
                    lengths = [slow_length(web, way) for way in ways_between(web, keep, a, b)]
                    self.assertEqual(far(web, keep, a, b), min(lengths, default=None))

    def test_great_webs(self):
        for seed, web in enumerate(great_webs()):
            for keep in (whole(web), drawn_keep(Draw(seed), web)):
                fars = slow_fars(web, keep)
                for a in range(0, 24, 5):
                    self.assertEqual([far(web, keep, a, b) for b in range(24)], fars[a])


class TheWayTest(unittest.TestCase):
    def test_the_greatest_number_in_just_one_decides(self):
        # Ties 0: 0-1, 1: 0-2, 2: 0-3, 3: 1-4, 4: 2-4, 5: 3-4. All three ways from 0 to 4 are as short.
        web = made_web(5, [(0, 1, 3), (0, 2, 2), (0, 3, 1), (1, 4, 1), (2, 4, 2), (3, 4, 3)])
        self.assertEqual(the_way(web, whole(web), 0, 4), (0, 1, 4))
        self.assertEqual(the_way(web, (1, 2, 4, 5), 0, 4), (0, 2, 4))

    def test_fewer_ties_may_come_first(self):
        # Ties 0: 0-1, 1: 0-3, 2: 1-2, 3: 2-3. Of (0, 2, 3) and (1) the latter lacks 3.
        web = made_web(4, [(0, 1, 1), (0, 3, 3), (1, 2, 1), (2, 3, 1)])
        self.assertEqual(the_way(web, whole(web), 0, 3), (0, 3))

    def test_more_ties_may_come_first(self):
        # Ties 0: 0-1, 1: 0-2, 2: 1-3, 3: 2-4, 4: 3-4. Of (0, 1, 2, 3) and (4) the former lacks 4.
        web = made_web(5, [(0, 1, 1), (0, 2, 1), (1, 3, 1), (2, 4, 1), (3, 4, 4)])
        self.assertEqual(the_way(web, whole(web), 3, 4), (3, 1, 0, 2, 4))

    def test_not_the_first_as_tuples(self):
        # Ties 0: 0-1, 1: 0-2, 2: 1-4, 3: 2-3, 4: 3-5, 5: 4-5. Of (0, 2, 5) and (1, 3, 4) the latter lacks 5.
        web = made_web(6, [(0, 1, 1), (0, 2, 1), (1, 4, 1), (2, 3, 1), (3, 5, 1), (4, 5, 1)])
        self.assertEqual(the_way(web, whole(web), 0, 5), (0, 2, 3, 5))

    def test_not_by_the_greatest_number_that_both_have(self):
        # Ties 0: 0-1, 1: 0-2, 2: 1-3, 3: 2-3, 4: 3-4. Both have 4; of (0, 2) and (1, 3) the former lacks 3.
        web = made_web(5, [(0, 1, 1), (0, 2, 1), (1, 3, 1), (2, 3, 1), (3, 4, 1)])
        self.assertEqual(the_way(web, whole(web), 0, 4), (0, 1, 3, 4))

    def test_of_a_place_and_itself_and_where_none_leads(self):
        for web, keep in webs_and_keeps(12):
            for a in range(web[0]):
                self.assertEqual(the_way(web, keep, a, a), (a,))
        self.assertIsNone(the_way(SMALL, whole(SMALL), 0, 4))
        self.assertIsNone(the_way(SMALL, whole(SMALL), 4, 0))
        self.assertIsNone(the_way(SMALL, (), 0, 1))

    def test_against_all_ways(self):
        for web, keep in webs_and_keeps(80):
            for a in range(web[0]):
                for b in range(web[0]):
                    self.assertEqual(the_way(web, keep, a, b), slow_way(web, keep, a, b))

    def test_against_all_ways_where_all_ties_are_as_long(self):
        for n in (5, 6, 7):
            web = full_web(n, 3)
            keep = tuple(tie for tie in whole(web) if tie % 3 != 1)
            for a in range(n):
                for b in range(n):
                    self.assertEqual(the_way(web, keep, a, b), slow_way(web, keep, a, b))

    def test_a_part_is_the_way_and_it_is_turned_about(self):
        for web, keep in webs_and_keeps(40) + [(web, whole(web)) for web in great_webs()]:
            for a in range(0, web[0], 1 + web[0] // 6):
                for b in range(web[0]):
                    way = the_way(web, keep, a, b)
                    if way is None:
                        self.assertIsNone(the_way(web, keep, b, a))
                        continue
                    self.assertEqual((way[0], way[-1]), (a, b))
                    self.assertEqual(the_way(web, keep, b, a), way[::-1])
                    middle = len(way) // 2
                    self.assertEqual(the_way(web, keep, way[0], way[middle]), way[:middle + 1])
                    self.assertEqual(the_way(web, keep, way[middle], way[-1]), way[middle:])

    def test_two_ways_share_one_stretch_or_nothing(self):
        for web, keep in webs_and_keeps(24):
            ways = [the_way(web, keep, a, b) for a in range(web[0]) for b in range(a, web[0])]
            ways = [way for way in ways if way is not None]
            for one in ways:
                for other in ways:
                    shared = tuple(place for place in one if place in other)
                    self.assertTrue(is_stretch(shared, one))
                    self.assertTrue(is_stretch(shared, other) or is_stretch(shared[::-1], other))

    def test_great_webs(self):
        for seed, web in enumerate(great_webs()):
            for keep in (whole(web), drawn_keep(Draw(seed), web)):
                fars = slow_fars(web, keep)
                for a, b in ((0, 23), (7, 12), (1, 11), (3, 2)):
                    way = the_way(web, keep, a, b)
                    self.assertEqual(way is None, fars[a][b] is None)
                    if way is not None:
                        self.assertTrue(way_right(web, keep, way))
                        self.assertEqual(way_length(web, way), fars[a][b])
                        self.assertTrue(slow_ties(web, way) <= set(keep))

    def test_the_last_of_sixty_ties_is_the_first_to_be_left_out(self):
        # In a ring of 24, whose tie 22-23 is number 59, both ways between facing places are as long.
        ring = [(i, (i + 1) % 24, 10 ** 18) for i in range(24)]
        more = [(a, b, 10 ** 18) for a in range(0, 20, 2) for b in range(a + 2, 24, 2)][:36]
        web = made_web(24, ring + more)
        links = tied(web, whole(web))
        self.assertEqual((len(web[1]), links[(22, 23)][0]), (60, 59))
        keep = tuple(sorted(links[(i, (i + 1) % 24)][0] for i in range(24)))
        self.assertEqual(far(web, keep, 5, 17), 12 * 10 ** 18)
        self.assertEqual(the_way(web, keep, 5, 17), tuple(range(5, 18)))
        self.assertEqual(the_way(web, keep, 11, 23), tuple(range(11, -1, -1)) + (23,))


class TreeTest(unittest.TestCase):
    def test_none_for_the_root_and_where_no_way_leads(self):
        self.assertEqual(tree_from(SMALL, whole(SMALL), 0), (None, 0, 0, 2, None))
        self.assertEqual(tree_from(SMALL, whole(SMALL), 4), (None,) * 5)
        self.assertEqual(tree_from(SMALL, (0, 3), 3), (None, None, 3, None, None))
        self.assertEqual(tree_from((1, ()), (), 0), (None,))

    def test_the_one_ahead_on_the_way_from_the_root(self):
        for web, keep in webs_and_keeps(60):
            for root in range(web[0]):
                tree = tree_from(web, keep, root)
                self.assertIsInstance(tree, tuple)
                self.assertTrue(all_whole(tree))
                ways = [slow_way(web, keep, root, place) for place in range(web[0])]
                self.assertEqual(tree, tuple(way[-2] if way and len(way) > 1 else None for way in ways))

    def test_great_webs(self):
        for web in great_webs():
            keep = whole(web)
            for root in (0, 11, 23):
                tree = tree_from(web, keep, root)
                for place in range(24):
                    way = the_way(web, keep, root, place)
                    self.assertEqual(tree[place], way[-2] if way and len(way) > 1 else None)


class PiecesTest(unittest.TestCase):
    def test_pieces(self):
        self.assertEqual(pieces(SMALL, whole(SMALL)), ((0, 1, 2, 3), (4,)))
        self.assertEqual(pieces(SMALL, (3,)), ((0,), (1,), (2, 3), (4,)))
        self.assertEqual(pieces((1, ()), ()), ((0,),))
        web = made_web(6, [(0, 5, 1), (1, 4, 1), (4, 2, 1)])
        self.assertEqual(pieces(web, whole(web)), ((0, 5), (1, 2, 4), (3,)))

    def test_in_the_keep_of_none_each_place_by_itself(self):
        for web in drawn_webs(12) + great_webs():
            self.assertEqual(pieces(web, ()), tuple((place,) for place in range(web[0])))

    def test_places_of_a_piece_are_those_that_ways_lead_to(self):
        for web, keep in webs_and_keeps(40):
            told = pieces(web, keep)
            self.assertEqual(sorted(place for piece in told for place in piece), list(range(web[0])))
            self.assertEqual(list(told), sorted(told))
            for piece in told:
                self.assertEqual(list(piece), sorted(piece))
                for a in piece:
                    for b in range(web[0]):
                        self.assertEqual(slow_far(web, keep, a, b) is not None, b in piece)


class OwnTest(unittest.TestCase):
    def test_the_same_question_has_the_same_answer_of_whole_numbers(self):
        for web in (SMALL, ring_web(7), full_web(6), great_webs()[0]):
            keep = list(whole(web))
            kept = tuple(keep)
            for ask in (lambda: the_way(web, kept, 0, 3), lambda: tree_from(web, kept, 2), lambda: pieces(web, kept)):
                first = ask()
                self.assertEqual(ask(), first)
                self.assertTrue(all_whole(first))
            self.assertEqual(far(web, kept, 0, 3), far(web, kept, 3, 0))
            self.assertEqual(kept, tuple(keep))


if __name__ == "__main__":
    unittest.main()
