import re
import unittest
from fractions import Fraction

from tests.helper import (
    Draw, drawn_webs, full_web, great_webs, outside, ring_web, slow_fars, slow_order, slow_rule, slow_way, stands,
)
from thinways.desk import Desk
from thinways.errors import NoBack, NoLength, NoLine, NoText, NoTie, NoTimes, ThinError, TooMany
from thinways.falls import falls_told
from thinways.few import few_told
from thinways.fewest import fewest
from thinways.forest import least_forest
from thinways.texts import keep_text, way_text, web_text
from thinways.webs import is_web, made_web, tie_between

QUESTIONS = ("show", "keep", "least", "forest", "far 0 0", "way 0 0", "few 1", "few 12")
NUMBER = r"(0|[1-9][0-9]{0,59})"


def told_web(text):
    """The web that is written just so, or None."""
    if not re.fullmatch(rf"{NUMBER}( {NUMBER}-{NUMBER}:{NUMBER})*", text):
        return None
    words = text.split(" ")
    web = (int(words[0]), tuple(tuple(int(part) for part in re.split("[-:]", word)) for word in words[1:]))
    return web if is_web(web) else None


class SlowDesk:
    """What a desk is to answer: a text, or the class of the refusal."""

    def __init__(self):
        self.steps = [((1, ()), 3)]

    def say(self, row):
        web, t = self.steps[-1]
        n = web[0]
        if row[:4] == "web ":
            return self.deed((told_web(row[4:]), t)) if told_web(row[4:]) else NoText
        if re.fullmatch(f"times {NUMBER}", row):
            number = int(row[6:])
            return self.deed((web, number)) if 1 <= number <= 99 else NoTimes
        if row == "back":
            if len(self.steps) == 1:
                return NoBack
            self.steps.pop()
            return "ok"
        numbers = [int(word) for word in row.split(" ")[1:]] if re.fullmatch(f"[a-z]+( {NUMBER})*", row) else None
        word = row.split(" ")[0]
        many = {"fall": 2, "come": 3, "far": 2, "way": 2, "cost": 2, "few": 1, "bears": 1, "keep": 0, "least": 0,
                "show": 0, "forest": 0, "fewest": 0}
        if numbers is None or many.get(word) != len(numbers):
            return NoLine
        if word in ("fall", "come", "far", "way", "cost") and max(numbers[:2]) >= n:
            return NoLine
        if word in ("fall", "come"):
            return self.tie_deed(web, t, word, *numbers)
        return self.question(web, t, slow_rule(web, slow_order(web), t), word, numbers)

    def deed(self, step):
        self.steps.append(step)
        return "ok"

    def tie_deed(self, web, t, word, a, b, length=0):
        tie = tie_between(web, a, b)
        if word == "fall":
            if tie is None:
                return NoTie
            return self.deed(((web[0], web[1][:tie] + web[1][tie + 1:]), t))
        if tie is not None or a == b or len(web[1]) == 60:
            return NoTie
        if not 1 <= length <= 10 ** 18:
            return NoLength
        return self.deed((made_web(web[0], web[1] + ((a, b, length),)), t))

    def question(self, web, t, keep, word, numbers):
        if word in ("show", "keep", "forest"):
            return {"show": web_text(web), "keep": keep_text(keep), "forest": keep_text(least_forest(web))}[word]
        if word == "far":
            length = slow_fars(web, keep)[numbers[0]][numbers[1]]
            return "none" if length is None else str(length)
        if word == "way":
            way = slow_way(web, keep, *numbers)
            return "none" if way is None else way_text(way)
        if word == "least":
            grown = [Fraction(self.ends_far(web, keep, tie), web[1][tie][2]) for tie in outside(web, keep)]
            most = max([Fraction(1)] + grown)
            return f"{most.numerator}/{most.denominator}"
        if word == "few":
            return NoLine if not 1 <= numbers[0] <= 12 else self.few(web, keep, numbers[0])
        if word == "cost":
            tie = tie_between(web, *numbers)
            if tie not in keep:
                return NoTie
            length = self.ends_far(web, stands(keep, (tie,)), tie)
            return "apart" if length is None else f"round {length}"
        if word == "bears":
            return NoLine if numbers[0] > 2 else TooMany if web[0] > 12 else self.bears(web, t, keep, numbers[0])
        return TooMany if len(web[1]) > 10 else str(len(fewest(web, t)[0]))

    def ends_far(self, web, keep, tie):
        a, b, length = web[1][tie]
        return slow_fars(web, keep)[a][b]

    def few(self, web, keep, k):
        told = few_told(web, keep, k)
        return "few" if told[0] == "few" else "ring " + way_text(told[1])

    def bears(self, web, t, keep, f):
        told = falls_told(web, keep, t, f)
        return "bears" if told[0] == "bears" else "breaks {} {}".format(*web[1][told[1]][:2])


def answer_of(desk, row):
    try:
        return desk.say(row)
    except ThinError as error:
        return error.__class__


class DeskTest(unittest.TestCase):
    def said(self, desk, *rows):
        for row, asked in rows:
            self.assertEqual(answer_of(desk, row), asked, row)

    def test_a_new_desk(self):
        desk = Desk()
        self.said(desk, ("show", "1"), ("keep", "-"), ("least", "1/1"), ("few 1", "few"), ("forest", "-"),
                  ("fewest", "0"), ("far 0 0", "0"), ("way 0 0", "0"), ("bears 2", "bears"), ("back", NoBack))
        # Its times are 3: of a ring of four the last tie isn't kept, of five it is.
        self.said(desk, ("web " + web_text(ring_web(4)), "ok"), ("keep", "0,1,2"))
        self.said(desk, ("web " + web_text(ring_web(5)), "ok"), ("keep", "0,1,2,3,4"), ("times 4", "ok"),
                  ("keep", "0,1,2,3"))

    def test_questions(self):
        desk = Desk()
        self.said(desk, ("web 6 0-1:2 0-2:5 0-3:1 1-2:3 4-5:7", "ok"), ("show", "6 0-1:2 0-2:5 0-3:1 1-2:3 4-5:7"),
                  ("keep", "0,2,3,4"), ("far 3 2", "6"), ("far 2 3", "6"), ("far 0 4", "none"), ("way 3 2", "3>0>1>2"),
                  ("way 2 3", "2>1>0>3"), ("way 4 5", "4>5"), ("way 5 0", "none"), ("far 5 5", "0"), ("way 5 5", "5"),
                  ("least", "1/1"), ("few 3", "few"), ("cost 1 0", "apart"), ("cost 0 2", NoTie), ("bears 0", "bears"),
                  ("bears 1", "breaks 0 2"), ("forest", "0,2,3,4"), ("fewest", "4"))

    def test_least_ratio(self):
        desk = Desk()
        self.said(desk, ("web 3 0-1:2 0-2:3 1-2:4", "ok"), ("keep", "0,1"), ("least", "5/4"), ("far 1 2", "5"))
        self.said(desk, ("web 4 0-1:1 1-2:1 2-3:1 0-3:1", NoText), ("web 4 0-1:1 0-3:1 1-2:1 2-3:1", "ok"),
                  ("least", "3/1"))

    def test_rings_and_costs(self):
        desk = Desk()
        self.said(desk, ("times 1", "ok"), ("web " + web_text(full_web(5)), "ok"), ("few 1", "few"),
                  ("few 2", "ring 0>1>2"), ("few 12", "ring 0>1>2"), ("cost 3 1", "round 2"), ("cost 3 3", NoTie),
                  ("fewest", "10"), ("bears 2", "bears"))
        self.said(desk, ("web 3 0-1:5 0-2:6 1-2:9", "ok"), ("cost 0 1", "round 15"), ("cost 1 2", "round 11"),
                  ("times 2", "ok"), ("cost 1 2", NoTie), ("cost 1 0", "apart"))

    def test_deeds(self):
        desk = Desk()
        self.said(desk, ("web 3", "ok"), ("come 1 0 4", "ok"), ("come 1 2 4", "ok"), ("come 2 0 9", "ok"),
                  ("show", "3 0-1:4 0-2:9 1-2:4"), ("keep", "0,2"), ("fall 2 1", "ok"), ("show", "3 0-1:4 0-2:9"),
                  ("keep", "0,1"), ("times 1", "ok"), ("fall 0 1", "ok"), ("show", "3 0-2:9"), ("far 1 0", "none"))

    def test_back(self):
        desk = Desk()
        self.said(desk, ("back", NoBack), ("web 3 0-1:4 0-2:8 1-2:4", "ok"), ("times 1", "ok"), ("keep", "0,2"),
                  ("fall 0 2", "ok"), ("come 0 2 7", "ok"), ("keep", "0,1,2"), ("back", "ok"),
                  ("show", "3 0-1:4 1-2:4"), ("back", "ok"), ("keep", "0,2"), ("come 0 2 1", NoTie),
                  ("back", "ok"), ("times 99", "ok"), ("back", "ok"), ("back", "ok"), ("show", "1"),
                  ("back", NoBack), ("keep", "-"))

    def test_back_of_a_deed_that_changed_nothing(self):
        desk = Desk()
        self.said(desk, ("times 3", "ok"), ("web 1", "ok"), ("back", "ok"), ("back", "ok"), ("back", NoBack))
        self.said(desk, ("web 3 0-1:1 0-2:1 1-2:1", "ok"), ("times 3", "ok"), ("web 3 0-1:1 0-2:1 1-2:1", "ok"),
                  ("fall 1 2", "ok"), ("back", "ok"), ("back", "ok"), ("back", "ok"), ("show", "3 0-1:1 0-2:1 1-2:1"),
                  ("back", "ok"), ("back", NoBack), ("show", "1"))

    def test_questions_are_no_deeds(self):
        desk = Desk()
        self.said(desk, ("web 2 0-1:1", "ok"))
        for row in QUESTIONS + ("fewest", "bears 1", "cost 0 1"):
            self.assertIsInstance(desk.say(row), str)
        self.said(desk, ("back", "ok"), ("back", NoBack))

    def test_the_web_behind_back_has_its_times(self):
        desk = Desk()
        self.said(desk, ("times 1", "ok"), ("web " + web_text(ring_web(4)), "ok"), ("keep", "0,1,2,3"),
                  ("times 3", "ok"), ("keep", "0,1,2"), ("back", "ok"), ("keep", "0,1,2,3"))


class RefusalTest(unittest.TestCase):
    def setUp(self):
        self.desk = Desk()
        self.rows = ("web 4 0-1:2 0-2:5 0-3:1 1-2:3", "times 2", "fall 0 2", "come 0 2 9")
        for row in self.rows:
            self.desk.say(row)

    def state(self):
        return [answer_of(self.desk, row) for row in QUESTIONS + ("bears 1", "far 3 2", "way 3 2", "cost 0 1")]

    def refused(self, error, *rows):
        for row in rows:
            before = self.state()
            with self.assertRaises(error, msg=repr(row)) as caught:
                self.desk.say(row)
            self.assertIsInstance(caught.exception, ThinError)
            self.assertEqual(self.state(), before, row)

    def tearDown(self):
        # Behind all refusals just the four deeds are there to be taken back.
        for row in self.rows:
            self.assertEqual(self.desk.say("back"), "ok")
        with self.assertRaises(NoBack):
            self.desk.say("back")

    def test_no_line(self):
        self.refused(
            NoLine, "", " ", "  ", "web", "times", "fall", "come", "far", "way", "few", "cost", "bears", "hello",
            "Keep", "KEEP", "keep ", " keep", "keep  ", "keep 1", "back 1", "back ", " back", "least 1", "show 0",
            "forest 0", "fewest 3", "show ", "keep\n", "\nkeep", "keep\tx", "back\n", "kee", "keeps", "webs 3",
            "Web 3", " web 3", "times ", "times  3", "times 3 ", "times 3 3", "fall 0", "fall 0 1 2", "fall 0  1",
            "come 0 1", "come 0 1 2 3", "far 0", "far 0 1 2", "way 0", "few 1 1", "few ", "cost 0", "bears 1 1",
            "web\t3", "times\t3", "0", "1 2", "%", "keep%", "\u043a\u0435\u0435\u0440", "far\u00a00 1", "a" * 4000,
            "0 " * 2000, "back back",
        )

    def test_numbers_not_so_written(self):
        odd = ("01", "00", "+1", "-1", "-0", "1.0", "1e1", "x", "\u0661", "\u00b2", "1_0", "1" * 61, "9" * 4000)
        for number in odd + ("0" * 61,):
            self.refused(NoLine, f"times {number}", f"fall {number} 1", f"fall 1 {number}", f"come {number} 1 1",
                         f"come 3 {number} 1", f"come 3 1 {number}", f"far {number} 1", f"way 0 {number}",
                         f"few {number}", f"cost {number} 0", f"bears {number}", f"keep {number}")

    def test_no_places(self):
        for number in (4, 5, 24, 99, 10 ** 59):
            self.refused(NoLine, f"fall {number} 0", f"fall 0 {number}", f"come {number} 0 1", f"come 0 {number} 1",
                         f"come 0 {number} 0", f"far {number} 0", f"far 0 {number}", f"way {number} {number}",
                         f"way 1 {number}", f"cost {number} 0", f"cost 0 {number}")

    def test_no_k_and_no_f(self):
        self.refused(NoLine, "few 0", "few 13", f"few {10 ** 59}", "bears 3", "bears 13", f"bears {10 ** 59}")
        self.assertEqual([answer_of(self.desk, f"few {k}") for k in (1, 12)], ["few", "few"])

    def test_no_text(self):
        self.refused(NoText, "web ", "web  ", "web  3", "web 3 ", "web 0", "web 25", "web x", "web 3 0-1",
                     "web 3 1-0:1", "web 3 0-1:0", "web 03", "web 3 0-1:01", "web 3 1-2:1 0-1:1", "web 2 0-2:1",
                     "web 3 0-1:1 0-1:1", "web web 3", "web 3\n", "web keep", "web \n", "web -1", "web 1" + "0" * 70,
                     "web %")

    def test_no_times(self):
        self.refused(NoTimes, "times 0", "times 100", "times 999", "times " + "1" * 60, f"times {10 ** 59}")

    def test_no_tie_ahead_of_no_length(self):
        long = "9" * 60
        self.refused(NoTie, "fall 2 3", "fall 3 2", "fall 0 0", "fall 3 3", "come 0 1 5", "come 1 0 0", "come 2 2 1",
                     "come 2 2 0", f"come 0 1 {long}", "cost 2 3", "cost 0 0", "cost 2 0")
        self.refused(NoLength, "come 2 3 0", "come 3 2 0", f"come 2 3 {10 ** 18 + 1}", f"come 3 1 {long}")
        self.refused(NoLine, f"come 2 3 {long}9", "come 2 4 0", "come 0 1 x")

    def test_cost_of_a_tie_that_is_not_kept(self):
        # The tie 0-2 of 9 is in the web and isn't kept.
        self.assertEqual(self.desk.say("keep"), "0,2,3")
        self.refused(NoTie, "cost 0 2", "cost 2 0")
        self.assertEqual(self.desk.say("cost 0 1"), "apart")


class TooManyTest(unittest.TestCase):
    def test_bears_and_fewest(self):
        desk = Desk()
        for row in ("web 13", "come 0 12 5"):
            desk.say(row)
        for row, error in (("bears 0", TooMany), ("bears 2", TooMany), ("bears 3", NoLine), ("fewest 1", NoLine)):
            self.assertEqual(answer_of(desk, row), error)
        self.assertEqual(answer_of(desk, "fewest"), "1")
        desk.say("web " + web_text(ring_web(10)))
        self.assertEqual(answer_of(desk, "fewest"), "10")
        desk.say("web " + web_text(ring_web(11)))
        self.assertEqual(answer_of(desk, "fewest"), TooMany)
        self.assertEqual(answer_of(desk, "bears 0"), "bears")
        for row in ("back", "back", "back", "back"):
            self.assertEqual(desk.say(row), "ok")
        self.assertEqual(answer_of(desk, "back"), NoBack)

    def test_sixty_ties(self):
        desk = Desk()
        web = great_webs()[2]
        self.assertEqual(len(web[1]), 60)
        desk.say("web " + web_text(web))
        for row, error in (("come 22 23 1", NoTie), ("come 22 23 0", NoTie), ("come 22 24 0", NoLine)):
            self.assertEqual(answer_of(desk, row), error)
        a, b, length = web[1][7]
        self.assertEqual(desk.say(f"fall {b} {a}"), "ok")
        self.assertEqual(answer_of(desk, "come 22 23 0"), NoLength)
        self.assertEqual(desk.say("come 22 23 1"), "ok")


class WalkTest(unittest.TestCase):
    def drawn_row(self, draw, web):
        number = [str(draw.below(web[0] + 1)) for turn in range(3)]
        places = " ".join(number[:2])
        length = ("0", "1", "2", "5", "9", str(10 ** 18), str(10 ** 18 + 1))[draw.below(7)]
        rows = (f"times {draw.below(6)}", f"fall {places}", f"come {places} {length}", f"come {places} {length}",
                "back", "keep", f"far {places}", f"way {places}", "least", f"few {draw.below(4)}", f"cost {places}",
                f"bears {draw.below(4)}", "show", "forest", "fewest", f"web {web_text(web)}", f"come {places} x")
        return rows[draw.below(len(rows))]

    def test_rows_one_behind_the_other(self):
        seen = {}
        for seed, web in enumerate(drawn_webs(40, 6)):
            draw = Draw(seed + 90)
            desk, slow = Desk(), SlowDesk()
            rows = [f"web {web_text(web)}"] + [self.drawn_row(draw, web) for turn in range(80)] + ["back"] * 60
            for row in rows:
                asked = slow.say(row)
                self.assertEqual(answer_of(desk, row), asked, (rows[:rows.index(row)], row))
                self.assertEqual(desk.say("show"), web_text(slow.steps[-1][0]))
                seen.setdefault(row.split(" ")[0], set()).add(asked if isinstance(asked, type) else asked[:5])
        self.assertTrue({"ok", NoTie, NoLength, NoLine} <= seen["come"])
        self.assertTrue({"bears", "break"} <= seen["bears"] and {"few", NoLine} <= seen["few"])
        self.assertTrue({"round", "apart", NoTie} <= seen["cost"] and {"ok", NoBack} <= seen["back"])

    def test_great_webs(self):
        for web in great_webs() + [full_web(11, 10 ** 18), ring_web(24, 10 ** 18)]:
            desk, slow = Desk(), SlowDesk()
            a, b, length = web[1][5]
            rows = (f"web {web_text(web)}", "keep", "far 0 10", "least", "few 2", "few 3", "forest", "fewest",
                    "bears 1", f"cost {a} {b}", f"fall {a} {b}", "keep", f"come {b} {a} {10 ** 18}", "keep", "times 1",
                    "keep", "least", "few 12", "times 99", "keep", "back", "back", "back", "back", "show")
            for row in rows:
                self.assertEqual(answer_of(desk, row), slow.say(row), row)


class OwnTest(unittest.TestCase):
    def test_two_desks_do_not_touch_one_another(self):
        one, other = Desk(), Desk()
        one.say("web 3 0-1:1")
        self.assertEqual((one.say("show"), other.say("show")), ("3 0-1:1", "1"))
        other.say("times 1")
        one.say("back")
        self.assertEqual(answer_of(one, "back"), NoBack)
        self.assertEqual(other.say("back"), "ok")

    def test_the_same_question_has_the_same_answer(self):
        desk = Desk()
        desk.say("web " + web_text(great_webs()[0]))
        for row in QUESTIONS:
            self.assertEqual(desk.say(row), desk.say(row))
            self.assertIsInstance(desk.say(row), str)


if __name__ == "__main__":
    unittest.main()
