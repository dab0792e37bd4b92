"""Flat houses: rooms of rows with tables of catches, and houses made so."""

from slipcatch.deeds import inner_deeds, is_pair, is_whole, is_word
from slipcatch.houses import MOST_ROOMS, are_unlike, have_marks_shape, room_names
from slipcatch.kinds import have_kinds_shape, have_overs_ahead, kind_names

MOST_SLOT = 40
MOST_NUMBER = 4
MOST_TAKERS = 3
LAST_ROWS = ("jump", "throw", "slip", "back")
TOLD_WORDS = ("pass", "kept", "lost")

# Of each sort of row what stands behind its name: p a place, w a word, k a
# kind, m a mark, r a room, t a row's number, h a slot's, o a word that is told.
PARTS = {
    "say": "pw",
    "on": "m",
    "off": "m",
    "slip": "pk",
    "call": "pr",
    "jump": "t",
    "when": "mt",
    "turn": "t",
    "told": "oph",
    "throw": "h",
    "back": "",
}


def is_number(thing, most):
    return is_whole(thing) and 0 <= thing <= most


def is_place(thing):
    if not isinstance(thing, tuple) or len(thing) == 0 or not is_word(thing[0]):
        return False
    return all([is_number(number, MOST_NUMBER) for number in thing[1:]])


# What a row of a room may name.
class Scope:
    def __init__(self, flat, rows):
        self.kinds = kind_names(flat[0])
        self.marks = flat[1]
        self.rooms = room_names(flat)
        self.last = len(rows) - 1

    def fits(self, sort, part):
        if sort == "p":
            return is_place(part)
        if sort == "t":
            return is_number(part, self.last)
        if sort == "h":
            return is_number(part, MOST_SLOT)
        if sort == "k":
            return part in self.kinds
        if sort == "m":
            return part in self.marks
        if sort == "r":
            return part in self.rooms
        if sort == "o":
            return part in TOLD_WORDS
        return is_word(part)

    def fit_all(self, sorts, parts):
        return all([self.fits(sort, part) for sort, part in zip(sorts, parts)])


def is_row(scope, thing):
    if not isinstance(thing, tuple) or len(thing) == 0 or not isinstance(thing[0], str):
        return False
    sort = thing[0]
    if sort == "pick":
        return len(thing) in (3, 4) and scope.fit_all("ttt", thing[1:])
    if sort not in PARTS or len(thing) != 1 + len(PARTS[sort]):
        return False
    return scope.fit_all(PARTS[sort], thing[1:])


def are_takers(scope, thing):
    if not isinstance(thing, tuple):
        return scope.fits("t", thing)
    if not 1 <= len(thing) <= MOST_TAKERS:
        return False
    return all([is_pair(taker) and scope.fit_all("kt", taker) for taker in thing])


def is_catch(scope, thing):
    if not isinstance(thing, tuple) or len(thing) != 5:
        return False
    return scope.fit_all("ttp", thing[:3]) and are_takers(scope, thing[3]) and scope.fits("h", thing[4])


def has_room_form(thing):
    if not isinstance(thing, tuple) or len(thing) != 3 or not is_word(thing[0]):
        return False
    return isinstance(thing[1], tuple) and len(thing[1]) > 0 and isinstance(thing[2], tuple)


def has_good_rows(flat, room):
    scope = Scope(flat, room[1])
    if not all([is_row(scope, row) for row in room[1]]) or room[1][-1][0] not in LAST_ROWS:
        return False
    return all([is_catch(scope, catch) for catch in room[2]])


def is_flat(thing):
    if not isinstance(thing, tuple) or len(thing) != 3:
        return False
    if not have_kinds_shape(thing[0]) or not are_unlike(kind_names(thing[0])) or not have_overs_ahead(thing[0]):
        return False
    if not have_marks_shape(thing[1]) or not are_unlike(thing[1]):
        return False
    if not isinstance(thing[2], tuple) or not 1 <= len(thing[2]) <= MOST_ROOMS:
        return False
    if not all([has_room_form(room) for room in thing[2]]) or not are_unlike(room_names(thing)):
        return False
    return all([has_good_rows(thing, room) for room in thing[2]])


# The rows of one room while they are put there. Rows go to labels as long as
# it is not known which row stands there.
class Builder:
    def __init__(self):
        self.rows = []
        self.catches = []
        # Of each label the number of its row.
        self.spots = []
        self.used = {}

    def put(self, row):
        self.rows.append(row)

    def new_label(self):
        self.spots.append(None)
        return len(self.spots) - 1

    def new_labels(self, many):
        return tuple([self.new_label() for step in range(many)])

    def set_label(self, label):
        self.spots[label] = len(self.rows)

    def jump_to(self, label):
        self.used[label] = True
        self.put(("jump", label))

    # Whether a slip can come out of one of the rows from this one on.
    def may_slip(self, first):
        return any([row[0] in ("slip", "throw", "call") for row in self.rows[first:]])


# Two slots for each depth: what stands within one another is at unlike
# depths, and what stands side by side does not need its slots at one time.
def slot_of(place):
    return 2 * (len(place) - 1)


# Each of those below puts the rows of a deed, all side by side, so that a
# catch around it has them all; behind the last one goes on what is behind the
# deed where it is done. exits is (leave, stop, slot): the labels to go to by
# leave and by stop, and the slot of the slip in hand.
def put_row(builder, place, deed, exits):
    for number, inner in enumerate(inner_deeds(deed)):
        put_deed(builder, place + (number,), inner, exits)


# The deeds from number first on, each at its label, with a jump to what is
# behind them all but at the last one.
def put_labelled(builder, place, deeds, first, labels, exits):
    after = builder.new_label()
    for number, deed in enumerate(deeds):
        if number > 0:
            builder.jump_to(after)
        builder.set_label(labels[number])
        put_deed(builder, place + (first + number,), deed, exits)
    builder.set_label(after)


def put_pick(builder, place, deed, exits):
    deeds = inner_deeds(deed)
    labels = builder.new_labels(len(deeds))
    builder.put(("pick",) + labels)
    put_labelled(builder, place, deeds, 0, labels, exits)


def put_again(builder, place, deed, exits):
    start = builder.new_label()
    after = builder.new_label()
    builder.set_label(start)
    builder.put(("turn", after))
    put_deed(builder, place + (0,), deed[1], (exits[0], after, exits[2]))
    builder.jump_to(start)
    builder.set_label(after)


def put_when(builder, place, deed, exits):
    labels = builder.new_labels(2)
    builder.put(("when", deed[1], labels[1]))
    put_labelled(builder, place, inner_deeds(deed), 0, labels, exits)


def put_catch(builder, place, deed, exits):
    first = len(builder.rows)
    put_deed(builder, place + (0,), deed[1], exits)
    if not builder.may_slip(first):
        return
    slot = slot_of(place)
    labels = builder.new_labels(len(deed) - 2)
    takers = tuple([(taker[0], label) for taker, label in zip(deed[2:], labels)])
    builder.catches.append((first, len(builder.rows), place, takers, slot))
    after = builder.new_label()
    builder.jump_to(after)
    put_labelled(builder, place, inner_deeds(deed)[1:], 1, labels, (exits[0], exits[1], slot))
    builder.set_label(after)


# The 1 of a clean stands there once for each way by which its 0 may end. The
# slip that is held, where it ended with one, is lost where the 1 is not done.
def put_held(builder, place, deed, exits):
    slot = slot_of(place)
    first = len(builder.rows)
    leave = builder.new_label()
    stop = builder.new_label()
    put_deed(builder, place + (1,), deed[2], (leave, stop, exits[2]))
    behind = len(builder.rows)
    slips = builder.may_slip(first)
    builder.put(("told", "kept", place, slot))
    builder.put(("throw", slot))
    for label, outer in ((leave, exits[0]), (stop, exits[1])):
        if label in builder.used:
            builder.set_label(label)
            builder.put(("told", "lost", place, slot))
            builder.jump_to(outer)
    if slips:
        other = builder.new_label()
        builder.catches.append((first, behind, place, other, slot + 1))
        builder.set_label(other)
        builder.put(("told", "lost", place, slot))
        builder.put(("throw", slot + 1))


def put_clean(builder, place, deed, exits):
    first = len(builder.rows)
    leave = builder.new_label()
    stop = builder.new_label()
    after = builder.new_label()
    put_deed(builder, place + (0,), deed[1], (leave, stop, exits[2]))
    behind = len(builder.rows)
    slips = builder.may_slip(first)
    put_deed(builder, place + (1,), deed[2], exits)
    builder.jump_to(after)
    for label, outer in ((leave, exits[0]), (stop, exits[1])):
        if label in builder.used:
            builder.set_label(label)
            put_deed(builder, place + (1,), deed[2], exits)
            builder.jump_to(outer)
    if slips:
        held = builder.new_label()
        builder.catches.append((first, behind, place, held, slot_of(place)))
        builder.set_label(held)
        put_held(builder, place, deed, exits)
    builder.set_label(after)


def put_simple(builder, place, deed, exits):
    sort = deed[0]
    if sort == "leave":
        builder.jump_to(exits[0])
    elif sort == "stop":
        builder.jump_to(exits[1])
    elif sort == "pass":
        builder.put(("told", "pass", place, exits[2]))
        builder.put(("throw", exits[2]))
    elif sort in ("on", "off"):
        builder.put(deed)
    else:
        builder.put((sort, place, deed[1]))


def put_deed(builder, place, deed, exits):
    sort = deed[0]
    if sort == "row":
        put_row(builder, place, deed, exits)
    elif sort == "pick":
        put_pick(builder, place, deed, exits)
    elif sort == "again":
        put_again(builder, place, deed, exits)
    elif sort == "when":
        put_when(builder, place, deed, exits)
    elif sort == "clean":
        put_clean(builder, place, deed, exits)
    elif sort == "catch":
        put_catch(builder, place, deed, exits)
    else:
        put_simple(builder, place, deed, exits)


def settled_row(spots, row):
    sort = row[0]
    parts = "ttt" if sort == "pick" else PARTS[sort]
    return (sort,) + tuple([spots[part] if kind == "t" else part for kind, part in zip(parts, row[1:])])


def settled_catch(spots, catch):
    takers = catch[3]
    if isinstance(takers, tuple):
        settled = tuple([(kind, spots[label]) for kind, label in takers])
    else:
        settled = spots[takers]
    return catch[:3] + (settled, catch[4])


def flat_room(room, deed):
    builder = Builder()
    last = builder.new_label()
    # Outside of an again there is no stop, outside of a taker no pass.
    put_deed(builder, (room,), deed, (last, None, None))
    builder.set_label(last)
    builder.put(("back",))
    rows = [settled_row(builder.spots, row) for row in builder.rows]
    catches = [settled_catch(builder.spots, catch) for catch in builder.catches]
    return (room, tuple(rows), tuple(catches))


def made_flat(house):
    return (house[0], house[1], tuple([flat_room(room, deed) for room, deed in house[2]]))
