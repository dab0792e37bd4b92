"""Runs: the deeds of a house done one by one, by told choices.

An end of a deed is "done", "leave", "stop" or the slip that it ends with.
"""

from slipcatch.deeds import inner_deeds
from slipcatch.houses import first_taker


def is_slip(end):
    return isinstance(end, tuple)


def simple_end(place, deed, slip):
    sort = deed[0]
    if sort == "slip":
        return place
    if sort == "pass":
        return slip
    if sort in ("leave", "stop"):
        return sort
    return "done"


# The marks that are on are kept in the order of the house, whichever of
# them was put on first.
def marks_behind(house, deed, marks):
    if deed[0] == "on":
        return tuple([mark for mark in house[1] if mark in marks or mark == deed[1]])
    if deed[0] == "off":
        return tuple([mark for mark in marks if mark != deed[1]])
    return marks


# A deed that is begun and has not ended yet.
class Doing:
    def __init__(self, place, deed, slip):
        self.place = place
        self.deed = deed
        self.slip = slip
        # How many times a deed within it was begun.
        self.begun = 0
        # How the 0 of a clean ended.
        self.held = None


# A run on its way. The doings stand in a list, not in calls: rooms may be called however deep.
class Walk:
    def __init__(self, house, choices, most):
        self.house = house
        self.choices = choices
        self.most = most
        self.used = 0
        self.many = 0
        self.marks = ()
        self.trail = []
        self.doings = []
        # Why the run goes no further, where that is not its own end.
        self.halt = None

    def tell(self, thing):
        self.trail.append(thing)

    def begin(self, place, deed, slip):
        if self.many >= self.most:
            self.halt = ("long",)
            return
        self.many += 1
        self.doings.append(Doing(place, deed, slip))

    def begin_room(self, room):
        self.begin((room,), dict(self.house[2])[room], None)

    def begin_within(self, doing, number, slip):
        doing.begun += 1
        self.begin(doing.place + (number,), inner_deeds(doing.deed)[number], slip)

    # None where no choice is left; the run waits then.
    def choose(self):
        if self.used == len(self.choices):
            self.halt = ("waits",)
            return None
        self.used += 1
        return self.choices[self.used - 1]


# Each of those below goes on with a deed, from its beginning (end is None)
# or behind a deed within it that ended so; it tells how the deed itself
# ends, or None where it does not end here.
def go_on_simple(walk, doing):
    place = doing.place
    deed = doing.deed
    if deed[0] == "say":
        walk.tell(("say", place, deed[1]))
    if deed[0] == "slip":
        walk.tell(("slip", place))
    if deed[0] == "pass":
        walk.tell(("pass", place, doing.slip))
    walk.marks = marks_behind(walk.house, deed, walk.marks)
    return simple_end(place, deed, doing.slip)


def go_on_row(walk, doing, end):
    if end is not None and end != "done":
        return end
    if doing.begun == len(doing.deed) - 1:
        return "done"
    walk.begin_within(doing, doing.begun, doing.slip)
    return None


def go_on_pick(walk, doing, end):
    if end is not None:
        return end
    choice = walk.choose()
    if choice is not None:
        walk.begin_within(doing, choice % (len(doing.deed) - 1), doing.slip)
    return None


def go_on_again(walk, doing, end):
    if end == "stop":
        return "done"
    if end is not None and end != "done":
        return end
    choice = walk.choose()
    if choice is None:
        return None
    if choice % 2 == 0:
        return "done"
    walk.begin_within(doing, 0, doing.slip)
    return None


def go_on_when(walk, doing, end):
    if end is not None:
        return end
    walk.begin_within(doing, 0 if doing.deed[1] in walk.marks else 1, doing.slip)
    return None


def go_on_call(walk, doing, end):
    if end is None:
        walk.begin_room(doing.deed[1])
        return None
    if not is_slip(end):
        return "done"
    walk.tell(("out", doing.place, end))
    return end


def go_on_clean(walk, doing, end):
    if doing.begun < 2:
        doing.held = end
        walk.begin_within(doing, doing.begun, doing.slip)
        return None
    if is_slip(doing.held):
        walk.tell(("kept" if end == "done" else "lost", doing.place, doing.held))
    return doing.held if end == "done" else end


def go_on_catch(walk, doing, end):
    if end is None:
        walk.begin_within(doing, 0, doing.slip)
        return None
    if doing.begun == 2 or not is_slip(end):
        return end
    number = first_taker(walk.house, doing.deed, end)
    if number is None:
        walk.tell(("by", doing.place, end))
        return end
    walk.tell(("take", doing.place, number, end))
    walk.begin_within(doing, 1 + number, end)
    return None


def go_on(walk, doing, end):
    sort = doing.deed[0]
    if sort == "row":
        return go_on_row(walk, doing, end)
    if sort == "pick":
        return go_on_pick(walk, doing, end)
    if sort == "again":
        return go_on_again(walk, doing, end)
    if sort == "when":
        return go_on_when(walk, doing, end)
    if sort == "call":
        return go_on_call(walk, doing, end)
    if sort == "clean":
        return go_on_clean(walk, doing, end)
    if sort == "catch":
        return go_on_catch(walk, doing, end)
    return go_on_simple(walk, doing)


def run(house, choices, most):
    walk = Walk(house, choices, most)
    walk.begin_room(house[2][0][0])
    end = None
    while walk.doings and walk.halt is None:
        end = go_on(walk, walk.doings[-1], end)
        if end is not None:
            walk.doings.pop()
    if walk.halt is not None:
        return (walk.trail, walk.halt, walk.many)
    if is_slip(end):
        walk.tell(("end", end))
        return (walk.trail, ("slip", end), walk.many)
    return (walk.trail, ("done",), walk.many)
