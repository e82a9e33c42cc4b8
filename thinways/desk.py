"""A desk that keeps a web, times and the rule's keep, and is told rows of words: deeds and questions."""

from thinways.costs import cost_of
from thinways.errors import NoBack, NoLine, NoTie
from thinways.falls import falls_told
from thinways.few import few_told
from thinways.fewest import fewest
from thinways.forest import least_forest
from thinways.makes import web_with, web_without
from thinways.rule import ring_rule
from thinways.texts import is_written, keep_text, read_web, way_text, web_text
from thinways.times import least_ratio
from thinways.ways import far, the_way, way_length
from thinways.webs import is_place, tie_between

# What comes behind the first word of a row: n a number, p a place, k from 1 to 12, f from 0 to 2.
FORMS = {
    "times": "n", "fall": "pp", "come": "ppn", "back": "", "keep": "", "far": "pp", "way": "pp", "least": "",
    "few": "k", "cost": "pp", "bears": "f", "show": "", "forest": "", "fewest": "",
}


def fits(web, form, number):
    if form == "p":
        return is_place(web, number)
    if form == "k":
        return 1 <= number <= 12
    return form == "n" or number <= 2


def numbers_behind(web, words):
    if words[0] not in FORMS:
        raise NoLine("no row begins so")
    forms = FORMS[words[0]]
    if len(words) != 1 + len(forms) or not all([is_written(word) for word in words[1:]]):
        raise NoLine("behind the first word come so many numbers as it asks for")
    numbers = [int(word) for word in words[1:]]
    if not all([fits(web, form, number) for form, number in zip(forms, numbers)]):
        raise NoLine("a number is none of those that it may be here")
    return numbers


def ruled_state(web, t):
    keep, reasons = ring_rule(web, t)
    return (web, t, keep)


def state_behind(state, deed, numbers):
    web, t, keep = state
    if deed == "times":
        return ruled_state(web, numbers[0])
    if deed == "fall":
        web, keep, many = web_without(web, keep, t, numbers[0], numbers[1])
    else:
        web, keep, many = web_with(web, keep, t, numbers[0], numbers[1], numbers[2])
    return (web, t, keep)


def far_answer(web, keep, a, b):
    length = far(web, keep, a, b)
    return "none" if length is None else str(length)


def way_answer(web, keep, a, b):
    way = the_way(web, keep, a, b)
    return "none" if way is None else way_text(way)


# The rule parts no tie's ends, so its keep always has a least ratio.
def least_answer(web, keep):
    top, bottom = least_ratio(web, keep)
    return f"{top}/{bottom}"


def few_answer(web, keep, k):
    word, shown = few_told(web, keep, k)
    return "few" if word == "few" else "ring " + way_text(shown)


def cost_answer(web, keep, a, b):
    tie = tie_between(web, a, b)
    if tie not in keep:
        raise NoTie("no kept tie is there")
    told = cost_of(web, keep, tie)
    return "apart" if told[0] == "apart" else "round " + str(way_length(web, told[1]))


def bears_answer(web, keep, t, f):
    told = falls_told(web, keep, t, f)
    if told[0] == "bears":
        return "bears"
    a, b, length = web[1][told[1]]
    return f"breaks {a} {b}"


def keep_answer(state, word, numbers):
    web, t, keep = state
    if word == "keep":
        return keep_text(keep)
    if word == "far":
        return far_answer(web, keep, numbers[0], numbers[1])
    if word == "way":
        return way_answer(web, keep, numbers[0], numbers[1])
    if word == "least":
        return least_answer(web, keep)
    if word == "few":
        return few_answer(web, keep, numbers[0])
    if word == "cost":
        return cost_answer(web, keep, numbers[0], numbers[1])
    return bears_answer(web, keep, t, numbers[0])


def answer(state, word, numbers):
    web, t, keep = state
    if word == "show":
        return web_text(web)
    if word == "forest":
        return keep_text(least_forest(web))
    if word == "fewest":
        fewest_ties, tree = fewest(web, t)
        return str(len(fewest_ties))
    return keep_answer(state, word, numbers)


class Desk:
    def __init__(self):
        # Webs, times and keeps, as they were and, at the end, as they are now.
        self.past = [ruled_state((1, ()), 3)]

    def take_back(self):
        if len(self.past) == 1:
            raise NoBack("no deed is left that could be taken back")
        self.past.pop()

    def say(self, row):
        state = self.past[-1]
        # A web's text has blanks itself: so it is all that stands behind the first one.
        if row.startswith("web "):
            self.past.append(ruled_state(read_web(row[4:]), state[1]))
            return "ok"
        words = row.split(" ")
        numbers = numbers_behind(state[0], words)
        if words[0] == "back":
            self.take_back()
            return "ok"
        if words[0] in ("times", "fall", "come"):
            self.past.append(state_behind(state, words[0], numbers))
            return "ok"
        return answer(state, words[0], numbers)
