"""Kinds of slips: what stands under what."""

from slipcatch.deeds import is_pair, is_word

MOST_KINDS = 8


def overs_of(kinds, name):
    overs = []
    wanted = name
    # Each over is told ahead of what stands under it, so one way back meets all.
    for kind, over in reversed(kinds):
        if kind == wanted:
            overs.append(kind)
            wanted = over
    return overs


def is_under(kinds, name, over):
    return over in overs_of(kinds, name)


def nearest_over(kinds, names):
    for over in overs_of(kinds, names[0]):
        if all([is_under(kinds, name, over) for name in names]):
            return over
    return ""


def is_kind(thing):
    return is_pair(thing) and is_word(thing[0]) and (thing[1] == "" or is_word(thing[1]))


def have_kinds_shape(thing):
    if not isinstance(thing, tuple) or not 1 <= len(thing) <= MOST_KINDS:
        return False
    return all([is_kind(part) for part in thing])


def kind_names(kinds):
    return [kind[0] for kind in kinds]


def have_overs_ahead(kinds):
    ahead = [""]
    for name, over in kinds:
        if over not in ahead:
            return False
        ahead.append(name)
    return True
