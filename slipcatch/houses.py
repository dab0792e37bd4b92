"""Houses: why something is none, the places in one and the deeds that stand there."""

from slipcatch.deeds import inner_deeds, is_deed, is_pair, is_word
from slipcatch.errors import NoHouse
from slipcatch.kinds import have_kinds_shape, have_overs_ahead, kind_names, overs_of

MOST_MARKS = 2
MOST_ROOMS = 5
MOST_DEEDS = 48
MOST_SLIPS = 8
MOST_AROUND = 12


def have_marks_shape(thing):
    if not isinstance(thing, tuple) or len(thing) > MOST_MARKS:
        return False
    return all([is_word(mark) for mark in thing])


def is_room(thing):
    return is_pair(thing) and is_word(thing[0]) and is_deed(thing[1])


def have_rooms_shape(thing):
    if not isinstance(thing, tuple) or not 1 <= len(thing) <= MOST_ROOMS:
        return False
    return all([is_room(part) for part in thing])


def has_house_shape(thing):
    if not isinstance(thing, tuple) or len(thing) != 3:
        return False
    return have_kinds_shape(thing[0]) and have_marks_shape(thing[1]) and have_rooms_shape(thing[2])


# All deeds in one room in the order of places, each as (around, deed): around
# has for each deed that it stands within, from the outermost on, a tuple of
# that one's sort and the number by which the way goes inwards there.
def walk_deed(outermost):
    found = []
    waiting = [((), outermost)]
    while waiting:
        spot = waiting.pop()
        found.append(spot)
        around = spot[0]
        deed = spot[1]
        steps = [(around + ((deed[0], number),), inner) for number, inner in enumerate(inner_deeds(deed))]
        # The last one put there is the next one taken.
        steps.reverse()
        waiting.extend(steps)
    return found


def walk_house(house):
    found = []
    for room, outermost in house[2]:
        found.extend([(room, around, deed) for around, deed in walk_deed(outermost)])
    return found


def room_names(house):
    return [room[0] for room in house[2]]


def are_unlike(names):
    return len(set(names)) == len(names)


def names_what_is_there(house, deed):
    sort = deed[0]
    if sort == "slip":
        return deed[1] in kind_names(house[0])
    if sort in ("on", "off", "when"):
        return deed[1] in house[1]
    if sort == "call":
        return deed[1] in room_names(house)
    if sort == "catch":
        return all([taker[0] in kind_names(house[0]) for taker in deed[2:]])
    return True


def has_good_names(house):
    if not are_unlike(kind_names(house[0])) or not have_overs_ahead(house[0]):
        return False
    if not are_unlike(house[1]) or not are_unlike(room_names(house)):
        return False
    return all([names_what_is_there(house, deed) for room, around, deed in walk_house(house)])


def has_slip_to_pass(around):
    return any([sort == "catch" and number > 0 for sort, number in around])


def has_again_to_stop(around):
    return ("again", 0) in around


def is_great(spots):
    slips = [deed for room, around, deed in spots if deed[0] == "slip"]
    if len(spots) > MOST_DEEDS or len(slips) > MOST_SLIPS:
        return True
    if any([len(around) > MOST_AROUND for room, around, deed in spots]):
        return True
    return any([deed[0] == "clean" and ("clean", 1) in around for room, around, deed in spots])


def why_no_house(thing):
    if not has_house_shape(thing):
        return "shape"
    if not has_good_names(thing):
        return "names"
    spots = walk_house(thing)
    if not all([has_slip_to_pass(around) for room, around, deed in spots if deed[0] == "pass"]):
        return "pass"
    if not all([has_again_to_stop(around) for room, around, deed in spots if deed[0] == "stop"]):
        return "stop"
    if is_great(spots):
        return "great"
    return None


def need_house(thing):
    fault = why_no_house(thing)
    if fault is not None:
        raise NoHouse(fault)


def place_of(room, around):
    return (room,) + tuple([number for sort, number in around])


def places_of(house):
    return [place_of(room, around) for room, around, deed in walk_house(house)]


def deed_at(house, place):
    deed = dict(house[2])[place[0]]
    for number in place[1:]:
        deed = inner_deeds(deed)[number]
    return deed


def slips_of(house):
    return [place_of(room, around) for room, around, deed in walk_house(house) if deed[0] == "slip"]


def kind_of(house, slip):
    return deed_at(house, slip)[1]


# The number, from 0, of the first taker of a catch that the slip fits, or
# None where it goes by all of them.
def first_taker(house, catch, slip):
    overs = overs_of(house[0], kind_of(house, slip))
    for number, taker in enumerate(catch[2:]):
        if taker[0] in overs:
            return number
    return None
