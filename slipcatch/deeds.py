"""Words, and what a deed is made of: the words in it and the deeds within it."""

LETTERS = "abcdefghijklmnopqrstuvwxyz"
LONGEST_WORD = 8

# Of each sort of deed: how many words stand behind its name, and at least
# and at most how many deeds behind these. A catch's takers count as deeds.
FORMS = {
    "say": (1, 0, 0),
    "slip": (1, 0, 0),
    "pass": (0, 0, 0),
    "leave": (0, 0, 0),
    "stop": (0, 0, 0),
    "on": (1, 0, 0),
    "off": (1, 0, 0),
    "call": (1, 0, 0),
    "row": (0, 0, 4),
    "pick": (0, 2, 3),
    "again": (0, 1, 1),
    "when": (1, 2, 2),
    "clean": (0, 2, 2),
    "catch": (0, 2, 4),
}


def is_word(thing):
    if not isinstance(thing, str) or not 1 <= len(thing) <= LONGEST_WORD:
        return False
    return all([sign in LETTERS for sign in thing])


def is_pair(thing):
    return isinstance(thing, tuple) and len(thing) == 2


def is_taker(thing):
    return is_pair(thing) and is_word(thing[0])


# Things that are no texts may be such as no dict can be asked for.
def has_deed_name(thing):
    if not isinstance(thing, tuple) or len(thing) == 0:
        return False
    return isinstance(thing[0], str) and thing[0] in FORMS


# Says nothing of what the deeds within it are made of.
def has_deed_form(thing):
    if not has_deed_name(thing):
        return False
    form = FORMS[thing[0]]
    behind = 1 + form[0]
    if not form[1] <= len(thing) - behind <= form[2]:
        return False
    if not all([is_word(word) for word in thing[1:behind]]):
        return False
    return thing[0] != "catch" or all([is_taker(part) for part in thing[2:]])


def inner_deeds(deed):
    if deed[0] == "catch":
        return [deed[1]] + [taker[1] for taker in deed[2:]]
    words = FORMS[deed[0]][0]
    return list(deed[1 + words:])


# The same deed, but with these within it in the place of its own.
def with_inner(deed, inner):
    if deed[0] == "catch":
        takers = [(taker[0], new) for taker, new in zip(deed[2:], inner[1:])]
        return ("catch", inner[0]) + tuple(takers)
    words = FORMS[deed[0]][0]
    return deed[:1 + words] + tuple(inner)


# A list of what is still to be looked at, for things may lie too deep
# within one another to go in by calls.
def is_deed(thing):
    waiting = [thing]
    while waiting:
        part = waiting.pop()
        if not has_deed_form(part):
            return False
        waiting.extend(inner_deeds(part))
    return True


def is_whole(thing):
    return isinstance(thing, int) and not isinstance(thing, bool)


# Whether equality and a dict may be trusted with it: True is equal to 1 and
# False to 0, and of lists and dicts no dict can be asked.
def is_plain(thing):
    waiting = [thing]
    while waiting:
        part = waiting.pop()
        if isinstance(part, tuple):
            waiting.extend(part)
        elif part is not None and not isinstance(part, str) and not is_whole(part):
            return False
    return True
