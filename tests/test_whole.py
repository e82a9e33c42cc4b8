"""What the document promises over the whole: the interface, and keeps that one point makes held against the others."""

import inspect
import unittest
from importlib import import_module

from tests.helper import (
    Draw, all_keeps, all_whole, drawn_keep, drawn_levels, drawn_webs, forest_there, full_web, great_plain_webs,
    great_webs, great_webs_of_twelve, plain_webs, ring_web, slow_fars, slow_of_times, slow_pieces, slow_rings, stands,
)
from thinways.cases import cases_show
from thinways.clusters import level_keep, level_paper, trees_right
from thinways.costs import cost_of, cost_right
from thinways.desk import Desk
from thinways.errors import ThinError
from thinways.fallrule import fall_right, fall_rule
from thinways.falls import falls_right, falls_told
from thinways.few import few_right, few_told, peeled, share_of
from thinways.fewest import fewest
from thinways.forest import forest_paper, forest_right, least_forest
from thinways.guards import guard_keep, guards_by, guards_right, two_paper, two_right
from thinways.heaps import six_right, six_told
from thinways.heights import heights_from, heights_hold
from thinways.light import light_paper, light_right, near_light
from thinways.makes import Thinned
from thinways.more import least_more, more_paper, more_right
from thinways.pairs import pairs_right, pairs_told, partings
from thinways.posts import post_paper, post_trees, posts_right
from thinways.rings import least_ring, ring_right, shortest_ring
from thinways.rule import needed, ring_rule, rule_in, rule_right
from thinways.spares import fewer_right, none_fewer, spare
from thinways.texts import keep_text, read_keep, read_way, read_web, way_text, web_text
from thinways.times import least_ratio, times_right, times_told
from thinways.ways import far, pieces, the_way, tree_from, way_right
from thinways.webs import is_keep, is_web, kept_length, order_of, whole

INTERFACE = {
    "webs": "is_web(thing) made_web(n,ties) is_plain(web) is_keep(web,thing) whole(web) tie_between(web,a,b) "
            "order_of(web) kept_length(web,keep)",
    "ways": "way_right(web,keep,way) way_length(web,way) far(web,keep,a,b) the_way(web,keep,a,b) "
            "tree_from(web,keep,root) pieces(web,keep)",
    "heights": "heights_hold(web,keep,heights) heights_from(web,keep,a,roof)",
    "rings": "ring_right(web,keep,ring) least_ring(web,keep) shortest_ring(web,keep)",
    "spares": "spare(web,keep,tie) none_fewer(web,keep,g) fewer_right(web,keep,g,told)",
    "times": "times_told(web,keep,t) times_right(web,keep,t,told) least_ratio(web,keep)",
    "rule": "ring_rule(web,t) rule_right(web,t,told) rule_in(web,order,t) needed(web,keep,t)",
    "few": "peeled(web,keep,d) share_of(n,k) few_told(web,keep,k) few_right(web,keep,k,told)",
    "forest": "least_forest(web) forest_paper(web) forest_right(web,told)",
    "cases": "cases_show(web,t,tree)",
    "fewest": "fewest(web,t)",
    "posts": "post_trees(web,posts) post_paper(web,posts) posts_right(web,keep,posts,paper)",
    "pairs": "pairs_told(web,pairs) pairs_right(web,pairs,told) partings(ways)",
    "more": "least_more(web,keep) more_paper(web,keep) more_right(web,keep,m,paper)",
    "guards": "guards_by(web,d) guards_right(web,d,told) guard_keep(web,told) two_paper(web,told) "
              "two_right(web,keep,paper)",
    "heaps": "six_told(web,d) six_right(web,d,told)",
    "levels": "bunch(web,levels,v) pivot(web,levels,i,v) climb(web,levels,u,v)",
    "clusters": "level_keep(web,levels) level_paper(web,levels) trees_right(web,keep,t,paper)",
    "falls": "falls_told(web,keep,t,f) falls_right(web,keep,t,f,told)",
    "fallrule": "fall_rule(web,t,f) fall_right(web,t,f,told)",
    "costs": "cost_of(web,keep,tie) cost_right(web,keep,tie,told)",
    "light": "near_light(web,root,p,q) light_paper(web,root,keep) light_right(web,root,p,q,keep,paper)",
    "makes": "Thinned(web,t)",
    "texts": "web_text(web) keep_text(keep) way_text(way) read_web(thing) read_keep(thing) read_way(thing)",
    "desk": "Desk()",
}


class InterfaceTest(unittest.TestCase):
    def test_names_and_arguments(self):
        for module, rows in INTERFACE.items():
            for row in rows.split(" "):
                name, rest = row[:-1].split("(")
                there = getattr(import_module(f"thinways.{module}"), name)
                self.assertEqual(list(inspect.signature(there).parameters), [word for word in rest.split(",") if word])

    def test_methods(self):
        for kind, rows in ((Thinned, "fall(a,b) come(a,b,length) back() web() keep() gone_through()"),
                           (Desk, "say(row)")):
            for row in rows.split(" "):
                name, rest = row[:-1].split("(")
                asked = ["self"] + [word for word in rest.split(",") if word]
                self.assertEqual(list(inspect.signature(getattr(kind, name)).parameters), asked)


def drawn_thinned(seed, web, t):
    """A thinned web behind some deeds."""
    draw = Draw(seed)
    thinned = Thinned(web, t)
    for turn in range(6):
        a, b = draw.below(web[0]), draw.below(web[0])
        for deed in (lambda: thinned.fall(a, b), lambda: thinned.come(a, b, 1 + draw.below(9))):
            try:
                deed()
            except ThinError:
                continue
            break
    return thinned


def keeps_of(web, seed):
    """Keeps that the points make, with the times that they are promised to be of, None where of none."""
    n = web[0]
    told = [(ring_rule(web, t)[0], t) for t in (1, 2, 3, 5)]
    told += [(rule_in(web, order_of(web)[::-1], 3), 3)]
    for many in (1, 2, 3, 6):
        told.append((level_keep(web, drawn_levels(Draw(seed + many), n, many)), 2 * many - 1))
    if n <= 12:
        told += [(fall_rule(web, t, f)[0], t) for t in (1, 3) for f in (0, 1, 2)]
    told += [(near_light(web, root, p, q)[0], None) for root in (0, n - 1) for p, q in ((1, 1), (1, 9))]
    told += [(keep, None) for keep in (least_forest(web), post_trees(web, (n - 1,)), drawn_keep(Draw(seed), web))]
    return told


class KeepsTest(unittest.TestCase):
    def webs(self):
        return list(enumerate(drawn_webs(24, 7) + great_webs() + great_webs_of_twelve()))

    def test_of_the_promised_times_or_a_tie_is_told(self):
        for seed, web in self.webs():
            for keep, times in keeps_of(web, seed):
                self.assertTrue(is_keep(web, keep))
                for t in (1, 2, 3, 5, 11):
                    told = times_told(web, keep, t)
                    self.assertIs(times_right(web, keep, t, told), True)
                    self.assertEqual(told[0] == "keeps", slow_of_times(web, keep, t))
                if times is not None:
                    self.assertEqual(times_told(web, keep, times)[0], "keeps")
                    top, bottom = least_ratio(web, keep)
                    self.assertLessEqual(top, times * bottom)

    def test_all_that_is_told_of_them(self):
        for seed, web in self.webs():
            for keep, times in keeps_of(web, seed)[::3]:
                for k in (1, 2, 3):
                    self.assertIs(few_right(web, keep, k, few_told(web, keep, k)), True)
                ring, short = least_ring(web, keep), shortest_ring(web, keep)
                self.assertEqual(ring is None, short is None)
                if ring is not None:
                    self.assertIs(ring_right(web, keep, ring) and ring_right(web, keep, short), True)
                    self.assertIs(fewer_right(web, keep, len(ring), none_fewer(web, keep, len(ring))), True)
                    self.assertIsNone(none_fewer(web, keep, len(ring) + 1))
                for tie in keep[::4]:
                    self.assertIs(cost_right(web, keep, tie, cost_of(web, keep, tie)), True)
                    self.assertEqual(spare(web, keep, tie) is None, cost_of(web, keep, tie)[0] == "apart")
                heights = heights_from(web, keep, 0, 10 ** 20)
                self.assertIs(heights_hold(web, keep, heights), True)
                self.assertEqual(len(pieces(web, keep)), slow_pieces(web, keep))
                if web[0] <= 12:
                    self.assertIs(falls_right(web, keep, 3, 1, falls_told(web, keep, 3, 1)), True)
                self.assertEqual(read_keep(keep_text(keep)), keep)

    def test_the_ways_in_them(self):
        for seed, web in enumerate(drawn_webs(16, 6) + great_webs()[:2]):
            for keep, times in keeps_of(web, seed)[::4]:
                fars = slow_fars(web, keep)
                for a in range(0, web[0], 2):
                    tree = tree_from(web, keep, a)
                    for b in range(web[0]):
                        way = the_way(web, keep, a, b)
                        self.assertEqual(far(web, keep, a, b), fars[a][b])
                        self.assertEqual(way is None, fars[a][b] is None)
                        if way is not None:
                            self.assertIs(way_right(web, keep, way), True)
                            self.assertEqual(tree[b], way[-2] if len(way) > 1 else None)
                            self.assertEqual(read_way(way_text(way)), way)
                            self.assertEqual(the_way(web, keep, b, a), way[::-1])


class PapersTest(unittest.TestCase):
    def papers(self, seed, web):
        """Each kind of paper with its judge's answer."""
        n = web[0]
        yield rule_right(web, 3, ring_rule(web, 3))
        yield forest_right(web, (least_forest(web), forest_paper(web)))
        posts = (0,) if n == 1 else (0, n - 1)
        yield posts_right(web, post_trees(web, posts), posts, post_paper(web, posts))
        pairs = tuple((0, b) for b in range(1, n))
        yield pairs_right(web, pairs, pairs_told(web, pairs))
        levels = drawn_levels(Draw(seed), n, 3)
        yield trees_right(web, level_keep(web, levels), 5, level_paper(web, levels))
        keep = near_light(web, 0, 1, 2)[0]
        yield light_right(web, 0, 1, 2, keep, light_paper(web, 0, keep))
        if n <= 12:
            yield fall_right(web, 2, 2, fall_rule(web, 2, 2))
            yield falls_right(web, whole(web)[1:], 2, 2, falls_told(web, whole(web)[1:], 2, 2))

    def test_let_by(self):
        for seed, web in enumerate(drawn_webs(30, 8) + great_webs() + great_webs_of_twelve()):
            for right in self.papers(seed, web):
                self.assertIs(right, True)

    def test_plain_webs(self):
        for web in plain_webs(16, 8) + great_plain_webs():
            for d in (1, 2, 4):
                guards = guards_by(web, d)
                self.assertIs(guards_right(web, d, guards), True)
                keep = guard_keep(web, guards)
                self.assertIs(two_right(web, keep, two_paper(web, guards)), True)
                self.assertIs(more_right(web, keep, 2, more_paper(web, keep)), True)
                self.assertLessEqual(least_more(web, keep)[0], 2)
                told = six_told(web, d)
                self.assertIs(six_right(web, d, told), True)
                self.assertLessEqual(least_more(web, told[0])[0], 6)

    def test_what_is_told_is_of_whole_numbers(self):
        for seed, web in enumerate(drawn_webs(12, 6) + great_webs()[:2]):
            levels = drawn_levels(Draw(seed), web[0], 3)
            told = (ring_rule(web, 3), least_ratio(web, whole(web)), peeled(web, whole(web), 2), share_of(web[0], 2),
                    level_paper(web, levels), near_light(web, 0, 1, 1), light_paper(web, 0, ()),
                    Thinned(web, 2).keep(), partings((None, (0,), (0,))))
            self.assertTrue(all_whole(told))


class RuleTest(unittest.TestCase):
    def test_no_ring_is_short_and_few_are_kept(self):
        for web in drawn_webs(30, 7):
            for k in (1, 2, 3):
                keep = ring_rule(web, 2 * k - 1)[0]
                self.assertTrue(all(len(ring) > 2 * k for ring in slow_rings(web, keep)))
                self.assertEqual(few_told(web, keep, k)[0], "few")
                self.assertLessEqual(len(keep), web[0] * share_of(web[0], k))

    def test_every_kept_tie_is_needed_and_the_forest_is_within(self):
        for web in drawn_webs(30, 7) + great_webs():
            for t in (1, 2, 3, 99):
                keep = ring_rule(web, t)[0]
                self.assertEqual(needed(web, keep, t), keep)
                self.assertTrue(set(least_forest(web)) <= set(keep))
                for tie in keep:
                    self.assertFalse(slow_of_times(web, stands(keep, (tie,)), t))

    def test_with_a_tree_of_cases_none_has_fewer(self):
        for web in drawn_webs(30, 5):
            for t in (1, 2, 3):
                keep, tree = fewest(web, t)
                self.assertEqual(cases_show(web, t, tree), len(keep))
                self.assertLessEqual(len(keep), len(ring_rule(web, t)[0]))
                fewer = [other for other in all_keeps(web) if len(other) < len(keep)]
                self.assertFalse(any(slow_of_times(web, other, t) for other in fewer))

    def test_by_falls_more_is_kept_and_the_fewer_fall_the_more_is_borne(self):
        for web in drawn_webs(20, 6) + great_webs_of_twelve():
            keeps = [fall_rule(web, 3, f)[0] for f in (0, 1, 2)]
            for f, keep in enumerate(keeps):
                for fewer in range(f + 1):
                    self.assertEqual(falls_told(web, keep, 3, fewer)[0], "bears")
            self.assertEqual(keeps[0], ring_rule(web, 3)[0])


class NextMakeTest(unittest.TestCase):
    def test_behind_each_deed_the_make_is_as_good(self):
        for seed, web in enumerate(drawn_webs(30, 7) + great_webs()):
            for t in (1, 3):
                thinned = drawn_thinned(seed, web, t)
                made, keep = thinned.web(), thinned.keep()
                self.assertTrue(is_web(made))
                self.assertEqual(keep, ring_rule(made, t)[0])
                self.assertTrue(slow_of_times(made, keep, t))
                self.assertEqual(needed(made, keep, t), keep)
                while thinned.back():
                    self.assertEqual(thinned.keep(), ring_rule(thinned.web(), t)[0])
                self.assertEqual(thinned.web(), web)

    def test_a_desk_and_a_thinned_web_tell_the_same(self):
        for seed, web in enumerate(drawn_webs(20, 6) + great_webs()[:2]):
            desk = Desk()
            desk.say("web " + web_text(web))
            thinned = Thinned(web, 3)
            draw = Draw(seed + 3)
            for turn in range(10):
                a, b, length = draw.below(web[0]), draw.below(web[0]), 1 + draw.below(9)
                for row, deed in ((f"fall {a} {b}", lambda: thinned.fall(a, b)),
                                  (f"come {b} {a} {length}", lambda: thinned.come(b, a, length))):
                    try:
                        deed()
                        refusal = None
                    except ThinError as error:
                        refusal = error.__class__
                    if refusal is None:
                        self.assertEqual(desk.say(row), "ok")
                    else:
                        self.assertRaises(refusal, desk.say, row)
                    self.assertEqual(read_web(desk.say("show")), thinned.web())
                    self.assertEqual(read_keep(desk.say("keep")), thinned.keep())


class NearAndLightTest(unittest.TestCase):
    def test_with_little_slack_all_is_as_near_as_in_the_web(self):
        for web in drawn_webs(30, 7) + [ring_web(9), full_web(7)]:
            for root in range(web[0]):
                keep = near_light(web, root, 1, 10 ** 6)[0]
                row = slow_fars(web, whole(web))[root]
                kept = slow_fars(web, keep)[root]
                self.assertEqual(kept, row)
                self.assertGreaterEqual(kept_length(web, keep), kept_length(web, forest_there(web, root)))

    def test_no_tie_outside_the_root_s_piece(self):
        for web in drawn_webs(40, 8):
            for root in range(web[0]):
                row = slow_fars(web, whole(web))[root]
                for tie in near_light(web, root, 1, 3)[0]:
                    self.assertIsNotNone(row[web[1][tie][0]])


if __name__ == "__main__":
    unittest.main()
