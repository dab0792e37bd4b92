"""Runs of flat houses, row by row, by told choices."""

from slipcatch.kinds import is_under
from slipcatch.runs import Walk, marks_behind


# A call of a room that has not ended yet.
class Visit:
    def __init__(self, room):
        self.rows = room[1]
        self.catches = room[2]
        # The number of the row that is done; while another room is called, that of the call.
        self.spot = 0
        # Slips in them are tuples (place, kind).
        self.slots = {}


def visit_room(walk, name):
    for room in walk.house[2]:
        if room[0] == name:
            walk.doings.append(Visit(room))


# The row that the catch goes to with this slip, or None where it does not fit.
def taken_to(walk, catch, slip):
    place = catch[2]
    takers = catch[3]
    if not isinstance(takers, tuple):
        return takers
    for number, taker in enumerate(takers):
        if is_under(walk.house[0], slip[1], taker[0]):
            walk.tell(("take", place, number, slip[0]))
            return taker[1]
    walk.tell(("by", place, slip[0]))
    return None


def is_taken(walk, visit, slip):
    for catch in visit.catches:
        if catch[0] <= visit.spot < catch[1]:
            row = taken_to(walk, catch, slip)
            if row is not None:
                visit.slots[catch[4]] = slip
                visit.spot = row
                return True
    return False


def slip_on(walk, slip):
    while not is_taken(walk, walk.doings[-1], slip):
        walk.doings.pop()
        if not walk.doings:
            walk.tell(("end", slip[0]))
            walk.halt = ("slip", slip[0])
            return
        caller = walk.doings[-1]
        walk.tell(("out", caller.rows[caller.spot][1], slip[0]))


def go_back(walk):
    walk.doings.pop()
    if walk.doings:
        walk.doings[-1].spot += 1
    else:
        walk.halt = ("done",)


# The row that a row by a choice goes to, or None where the run waits for it.
def chosen_row(walk, row, spot):
    choice = walk.choose()
    if choice is None:
        return None
    if row[0] == "pick":
        return row[1 + choice % (len(row) - 1)]
    return row[1] if choice % 2 == 0 else spot + 1


# Those rows that stay in the room: told is which one is the next.
def do_staying_row(walk, visit, row):
    sort = row[0]
    if sort in ("pick", "turn"):
        return chosen_row(walk, row, visit.spot)
    if sort == "jump":
        return row[1]
    if sort == "when":
        return visit.spot + 1 if row[1] in walk.marks else row[2]
    if sort == "say":
        walk.tell(row)
    if sort == "told":
        walk.tell((row[1], row[2], visit.slots[row[3]][0]))
    walk.marks = marks_behind(walk.house, row, walk.marks)
    return visit.spot + 1


def do_row(walk):
    visit = walk.doings[-1]
    row = visit.rows[visit.spot]
    sort = row[0]
    if sort == "call":
        visit_room(walk, row[2])
    elif sort == "back":
        go_back(walk)
    elif sort == "slip":
        walk.tell(("slip", row[1]))
        slip_on(walk, (row[1], row[2]))
    elif sort == "throw":
        slip_on(walk, visit.slots[row[1]])
    else:
        visit.spot = do_staying_row(walk, visit, row)


def run_flat(flat, choices, most):
    # A walk as of a house, but its doings are visits and its many counts rows.
    walk = Walk(flat, choices, most)
    visit_room(walk, flat[2][0][0])
    while walk.halt is None:
        if walk.many >= walk.most:
            walk.halt = ("long",)
        else:
            walk.many += 1
            do_row(walk)
    return (walk.trail, walk.halt)
