"""Idle deeds: those that are begun in no run, and a house without them."""

from slipcatch.deeds import inner_deeds, with_inner
from slipcatch.houses import places_of
from slipcatch.tables import table_of

EMPTY = ("row",)


def idle_places(house):
    begun = {}
    for key in table_of(house):
        begun[key[0]] = True
    return [place for place in places_of(house) if place not in begun]


def pruned_deed(deed, place, idle):
    if place in idle:
        return EMPTY
    inner = [pruned_deed(part, place + (number,), idle) for number, part in enumerate(inner_deeds(deed))]
    return with_inner(deed, inner)


def pruned(house):
    idle = idle_places(house)
    rooms = [(room, pruned_deed(deed, (room,), idle)) for room, deed in house[2]]
    return (house[0], house[1], tuple(rooms))
