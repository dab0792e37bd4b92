"""Meets: all that may be told of slips in the trails of a house."""

from slipcatch.deeds import is_plain
from slipcatch.houses import deed_at, places_of, slips_of


def takes_at(place, catch, slips):
    takes = []
    for number in range(len(catch) - 2):
        takes.extend([("take", place, number, slip) for slip in slips])
    return takes


def meets_at(place, deed, slips):
    sort = deed[0]
    if sort == "slip":
        return [("slip", place)]
    if sort == "pass":
        return [("pass", place, slip) for slip in slips]
    if sort == "catch":
        return takes_at(place, deed, slips) + [("by", place, slip) for slip in slips]
    if sort == "clean":
        return [("kept", place, slip) for slip in slips] + [("lost", place, slip) for slip in slips]
    if sort == "call":
        return [("out", place, slip) for slip in slips]
    return []


def meets_of(house):
    slips = slips_of(house)
    meets = []
    for place in places_of(house):
        meets.extend(meets_at(place, deed_at(house, place), slips))
    return meets + [("end", slip) for slip in slips]


def is_meet(house, thing):
    return is_plain(thing) and thing in meets_of(house)
