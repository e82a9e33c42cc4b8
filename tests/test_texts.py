import unittest

from tests.helper import ANYTHING, Draw, drawn_keep, drawn_web, drawn_webs, full_web, great_webs, ring_web
from thinways.errors import NoText, ThinError
from thinways.texts import keep_text, read_keep, read_way, read_web, way_text, web_text
from thinways.webs import is_web, made_web, whole

# Figures of other scripts, which Python takes for figures, too.
OTHER_FIGURES = ("\u0661", "\u00b2", "\uff11", "\u0967")
ODD_NUMBERS = (
    "", "00", "01", "007", "+1", "-1", "-0", " 1", "1 ", "1.0", "1e2", "1_0", "0x1", "one", "1\n", "\n1", "\t1", "1\r",
    "0" * 61, "1" * 61, "9" * 400, "1" * 4000, "0" * 4000, "1" * 5000, "1\u0661", "None", "True",
    "1,", ",1", "1>", ">1", "1-", "1:", "(1)", "~", "%",
) + OTHER_FIGURES


class Refused:
    """`read` tells what is asked."""

    def refused(self, *things):
        for thing in things:
            with self.assertRaises(NoText, msg=repr(thing)) as caught:
                self.read(thing)
            self.assertIsInstance(caught.exception, ThinError)


class WebTest(Refused, unittest.TestCase):
    def read(self, thing):
        return read_web(thing)

    def test_written(self):
        self.assertEqual(web_text((1, ())), "1")
        self.assertEqual(web_text((24, ())), "24")
        self.assertEqual(web_text(made_web(4, [(2, 1, 3), (0, 2, 50), (3, 0, 10 ** 18)])),
                         "4 0-2:50 0-3:1000000000000000000 1-2:3")
        self.assertEqual(web_text(made_web(12, [(10, 11, 7)])), "12 10-11:7")

    def test_read_again(self):
        for web in drawn_webs(60, 8) + great_webs() + [full_web(11, 10 ** 18), ring_web(24), (1, ()), (24, ())]:
            text = web_text(web)
            self.assertIsInstance(text, str)
            self.assertEqual(read_web(text), web)
            self.assertTrue(is_web(read_web(text)))

    def test_numbers_otherwise_written(self):
        for odd in ODD_NUMBERS:
            self.refused(odd, f"{odd} 0-1:1", f"3 {odd}-2:1", f"3 0-{odd}:1", f"3 0-1:{odd}")

    def test_blanks_and_signs(self):
        self.refused("3 ", " 3", "3  0-1:1", "3 0-1:1 ", " 3 0-1:1", "3 0-1:1  1-2:1", "3 0 -1:1", "3 0- 1:1",
                     "3 0-1 :1", "3 0-1: 1", "3\t0-1:1", "3\n0-1:1", "3 0-1:1\n", "3,0-1:1", "3 0-1:1,1-2:1", "3 0-1",
                     "3 0:1-1", "3 0-1-2:1", "3 0-1:1:1", "3 0-1:", "3 -1:1", "3 0-:1", "3 :", "3 -", "3 0-1:-1",
                     "3 -0-1:1", "3 0>1:1", "3 0-1=1", "3 01:1", "3 0--1:1", "3 0-1::1", "-", ":", " ", "  ", "\n",
                     "3 0-1:1 x")

    def test_what_is_no_web(self):
        self.refused("0", "25", "1 0-0:1", "2 1-0:1", "2 0-2:1", "2 0-0:1", "3 0-1:0", f"3 0-1:{10 ** 18 + 1}",
                     f"3 0-1:{10 ** 59}", f"{10 ** 59}", "3 1-2:1 0-1:1", "3 0-2:1 0-1:1", "3 0-1:1 0-1:1",
                     "3 0-1:1 0-1:2", "3 0-1:2 0-1:1", "1 0-1:1", "24 0-24:1", "24 23-24:1")
        read_web(f"3 0-1:{10 ** 18}")
        sixty = web_text(drawn_web(Draw(1), 24, 60, 9))
        self.assertEqual(len(read_web(sixty)[1]), 60)
        ties = [f"{a}-{b}:1" for a in range(12) for b in range(a + 1, 12)]
        self.assertEqual(len(read_web(" ".join(["12"] + ties[:60]))[1]), 60)
        self.refused(" ".join(["12"] + ties[:61]), " ".join(["12"] + ties))

    def test_of_anything(self):
        self.refused(*[thing for thing in ANYTHING if thing != "3"])
        self.refused((3, ()), b"3", ["3"], ("3",), {"3": 1}, 3)
        self.assertEqual(read_web("3"), (3, ()))

    def test_one_sign_otherwise(self):
        signs = "0129-:, >x+\n"
        for web in drawn_webs(24, 5):
            text = web_text(web)
            for place in range(len(text) + 1):
                others = [text[:place] + text[place + 1:]]
                for sign in signs:
                    others.extend([text[:place] + sign + text[place:], text[:place] + sign + text[place + 1:]])
                for other in others:
                    try:
                        told = read_web(other)
                    except NoText:
                        continue
                    self.assertTrue(is_web(told), other)
                    self.assertEqual(web_text(told), other)


class KeepTest(Refused, unittest.TestCase):
    def read(self, thing):
        return read_keep(thing)

    def test_written_and_read_again(self):
        for keep, text in (((), "-"), ((0,), "0"), ((59,), "59"), ((0, 1, 2), "0,1,2"), ((3, 10, 42), "3,10,42")):
            self.assertEqual(keep_text(keep), text)
            self.assertEqual(read_keep(text), keep)
        every = tuple(range(60))
        self.assertEqual(read_keep(keep_text(every)), every)
        for seed, web in enumerate(great_webs() + drawn_webs(20)):
            for keep in (whole(web), drawn_keep(Draw(seed), web)):
                self.assertEqual(read_keep(keep_text(keep)), keep)

    def test_refused(self):
        for odd in ODD_NUMBERS:
            self.refused(odd, f"0,{odd}", f"{odd},59", f"0,{odd},59")
        self.refused("60", "0,60", f"{10 ** 59}", "1,0", "0,0", "0,1,1", "2,1,3", "0, 1", "0 ,1", "0 1", "0;1",
                     "0,,1", ",", "--", "-,", "-,1", "0,-", "- ", " -", "-0", "-1", "0-1", "0>1", "[0]", "()",
                     "0,1\n", "-\n")
        self.refused(*[thing for thing in ANYTHING if thing != "3"])
        self.refused((0, 1), [0, 1], b"0,1", ("0,1",), ("-",), 0)


class WayTest(Refused, unittest.TestCase):
    def read(self, thing):
        return read_way(thing)

    def test_written_and_read_again(self):
        for way, text in (((0,), "0"), ((23,), "23"), ((2, 0, 11), "2>0>11"), ((5, 4, 3), "5>4>3")):
            self.assertEqual(way_text(way), text)
            self.assertEqual(read_way(text), way)
        for way in (tuple(range(24)), tuple(range(23, -1, -1)), tuple(range(1, 24)) + (0,)):
            self.assertEqual(read_way(way_text(way)), way)

    def test_refused(self):
        for odd in ODD_NUMBERS:
            self.refused(odd, f"0>{odd}", f"{odd}>23", f"0>{odd}>23")
        self.refused("24", "0>24", f"{10 ** 59}", "0>0", "1>2>1", "0>1>0", "0> 1", "0 >1", "0 1", "0,1",
                     "0>>1", ">", "-", "0->1", "0-1", "0<1", "[0]", "()", "0>1\n", "0>1>", ">0>1",
                     way_text(tuple(range(24)) + (0,)))
        self.refused(*[thing for thing in ANYTHING if thing != "3"])
        self.refused((0, 1), [0, 1], b"0>1", ("0>1",), 0)


class OwnTest(unittest.TestCase):
    def test_kinds(self):
        self.assertEqual(read_web("2 0-1:5"), (2, ((0, 1, 5),)))
        self.assertIsInstance(read_web("2 0-1:5")[1], tuple)
        self.assertIsInstance(read_keep("0,1"), tuple)
        self.assertIsInstance(read_way("0>1"), tuple)


if __name__ == "__main__":
    unittest.main()
