"""Texts of webs, keeps and ways, and these read again: just what is so written."""

from thinways.errors import NoText
from thinways.kinds import is_rising
from thinways.webs import is_web


def tie_text(tie):
    a, b, length = tie
    return f"{a}-{b}:{length}"


def web_text(web):
    return " ".join([str(web[0])] + [tie_text(tie) for tie in web[1]])


def keep_text(keep):
    if len(keep) == 0:
        return "-"
    return ",".join([str(tie) for tie in keep])


def way_text(way):
    return ">".join([str(place) for place in way])


# Python reads signs, blanks and figures of other scripts as numbers, too: so each sign is looked at.
def is_written(text):
    if not 1 <= len(text) <= 60 or not all([sign in "0123456789" for sign in text]):
        return False
    return text == "0" or text[0] != "0"


def need_text(thing):
    if not isinstance(thing, str):
        raise NoText("only a text can be read")


def read_number(text):
    if not is_written(text):
        raise NoText("a number is written by figures, at most sixty, with no nought ahead")
    return int(text)


# What lacks a sign between leaves nothing behind it, which is no number.
def read_tie(word):
    ends, colon, length = word.partition(":")
    a, dash, b = ends.partition("-")
    return (read_number(a), read_number(b), read_number(length))


def read_web(thing):
    need_text(thing)
    words = thing.split(" ")
    web = (read_number(words[0]), tuple([read_tie(word) for word in words[1:]]))
    if not is_web(web):
        raise NoText("this is no web")
    return web


def read_keep(thing):
    need_text(thing)
    if thing == "-":
        return ()
    keep = tuple([read_number(word) for word in thing.split(",")])
    if not is_rising(keep) or keep[-1] > 59:
        raise NoText("a keep is written by rising numbers to 59")
    return keep


def read_way(thing):
    need_text(thing)
    way = tuple([read_number(word) for word in thing.split(">")])
    if len(set(way)) < len(way) or max(way) > 23:
        raise NoText("a way is written by unlike numbers to 23")
    return way
