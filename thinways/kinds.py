"""What kind of thing something is: asked of anything, so nothing is compared before its kind is known."""


# True and False are ints to Python, but no whole numbers here.
def is_whole(thing):
    return isinstance(thing, int) and not isinstance(thing, bool)


def is_wholes(thing):
    return isinstance(thing, tuple) and all([is_whole(part) for part in thing])


def is_all_wholes(thing):
    if isinstance(thing, tuple):
        return all([is_all_wholes(part) for part in thing])
    return is_whole(thing)


def is_rising(parts):
    return all([low < high for low, high in zip(parts, parts[1:])])


def is_tuple_of(thing, many):
    return isinstance(thing, tuple) and len(thing) == many


# What is told begins with a word that says what the things behind it are.
def is_told(thing, word, many):
    return is_tuple_of(thing, many) and thing[0] == word
