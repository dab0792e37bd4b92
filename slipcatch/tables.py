"""Tables: by which ways each deed may end, in whatever state it is begun.

A key is (place, scene, slip in hand), a way (end, scene). The scene is a
tuple of the marks that are on or, where a watcher looks on, a tuple of these
and the watcher's state.
"""

from slipcatch.deeds import is_plain
from slipcatch.houses import are_unlike, deed_at, first_taker, places_of, slips_of
from slipcatch.runs import is_slip, marks_behind, simple_end


# A house as it is looked at, with the watcher that looks on, or None.
class View:
    def __init__(self, house, watcher):
        self.house = house
        self.watcher = watcher
        # Each place's deed is asked for very often.
        self.deeds = {}
        for place in places_of(house):
            self.deeds[place] = deed_at(house, place)


def front_key(view):
    place = (view.house[2][0][0],)
    if view.watcher is None:
        return (place, (), None)
    return (place, ((), view.watcher[0][0]), None)


def marks_in(view, scene):
    if view.watcher is None:
        return scene
    return scene[0]


def state_behind(watcher, word, state):
    return watcher[1].get((state, word), state)


def scene_behind(view, deed, scene):
    marks = marks_behind(view.house, deed, marks_in(view, scene))
    if view.watcher is None:
        return marks
    if deed[0] == "say":
        return (marks, state_behind(view.watcher, deed[1], scene[1]))
    return (marks, scene[1])


# A step is how a deed goes on: a tuple (choices, stand, way) of the choices
# by which it does and either the stand that it comes to or the way that it
# ends by. A stand is (key, inner, held): the deed that was begun by this key
# is where one within it, or the room that it calls, is to be begun by the key
# inner; held is how the 0 of a clean ended.
def step_to(key, number, scene, slip):
    return ((), (key, (key[0] + (number,), scene, slip), None), None)


def step_out(end, scene):
    return ((), None, (end, scene))


def by_choice(choice, step):
    return ((choice,), step[1], step[2])


def row_steps(key, deed, number, scene):
    if number == len(deed) - 1:
        return [step_out("done", scene)]
    return [step_to(key, number, scene, key[2])]


def again_steps(key, scene):
    return [by_choice(0, step_out("done", scene)), by_choice(1, step_to(key, 0, scene, key[2]))]


def first_steps(view, key):
    deed = view.deeds[key[0]]
    scene = key[1]
    slip = key[2]
    sort = deed[0]
    if sort == "row":
        return row_steps(key, deed, 0, scene)
    if sort == "pick":
        return [by_choice(number, step_to(key, number, scene, slip)) for number in range(len(deed) - 1)]
    if sort == "again":
        return again_steps(key, scene)
    if sort == "when":
        return [step_to(key, 0 if deed[1] in marks_in(view, scene) else 1, scene, slip)]
    if sort == "call":
        return [((), (key, ((deed[1],), scene, None), None), None)]
    if sort in ("clean", "catch"):
        return [step_to(key, 0, scene, slip)]
    return [step_out(simple_end(key[0], deed, slip), scene_behind(view, deed, scene))]


def clean_steps(stand, number, way):
    key = stand[0]
    if number == 0:
        inner = (key[0] + (1,), way[1], key[2])
        return [((), (key, inner, way[0]), None)]
    return [step_out(stand[2] if way[0] == "done" else way[0], way[1])]


def catch_steps(view, key, number, way):
    taker = None
    if number == 0 and is_slip(way[0]):
        taker = first_taker(view.house, view.deeds[key[0]], way[0])
    if taker is None:
        return [((), None, way)]
    return [step_to(key, 1 + taker, way[1], way[0])]


# How the deed of a stand goes on where the one that was to be begun there
# ends by this way.
def next_steps(view, stand, way):
    key = stand[0]
    deed = view.deeds[key[0]]
    number = stand[1][0][-1]
    end = way[0]
    if deed[0] == "row" and end == "done":
        return row_steps(key, deed, number + 1, way[1])
    if deed[0] == "again" and end == "done":
        return again_steps(key, way[1])
    if deed[0] == "again" and end == "stop" or deed[0] == "call" and end == "leave":
        return [step_out("done", way[1])]
    if deed[0] == "clean":
        return clean_steps(stand, number, way)
    if deed[0] == "catch":
        return catch_steps(view, key, number, way)
    return [((), None, way)]


# A table that grows from the front key on by what is due, and by nothing
# else. Its ways stand in dicts as long as it grows.
class Growth:
    def __init__(self, view):
        self.view = view
        self.table = {}
        # Of each key, the stands at which a deed is begun by it.
        self.stands = {}
        # Tuples (key, step): the deed of the key is to make this step.
        self.waiting = []

    def need_steps(self, key, steps):
        self.waiting.extend([(key, step) for step in steps])

    def need_key(self, key):
        if key not in self.table:
            self.table[key] = {}
            self.stands[key] = {}
            self.need_steps(key, first_steps(self.view, key))

    def need_stand(self, stand):
        inner = stand[1]
        self.need_key(inner)
        if stand not in self.stands[inner]:
            self.stands[inner][stand] = True
            for way in self.table[inner]:
                self.need_steps(stand[0], next_steps(self.view, stand, way))

    def need_way(self, key, way):
        if way not in self.table[key]:
            self.table[key][way] = True
            for stand in self.stands[key]:
                self.need_steps(stand[0], next_steps(self.view, stand, way))


def least_table(view):
    growth = Growth(view)
    growth.need_key(front_key(view))
    while growth.waiting:
        waited = growth.waiting.pop()
        step = waited[1]
        if step[1] is None:
            growth.need_way(waited[0], step[2])
        else:
            growth.need_stand(step[1])
    table = {}
    for key, ways in growth.table.items():
        table[key] = list(ways)
    return table


def table_of(house):
    return least_table(View(house, None))


def scenes_of(view):
    found = [()]
    for mark in view.house[1]:
        found = found + [marks + (mark,) for marks in found]
    if view.watcher is None:
        return found
    scenes = []
    for state in view.watcher[0]:
        scenes.extend([(marks, state) for marks in found])
    return scenes


# All that a table may have as keys; a pass is begun with a slip in hand alone.
def all_keys(view):
    slips = slips_of(view.house)
    scenes = scenes_of(view)
    keys = {}
    for place, deed in view.deeds.items():
        hands = slips if deed[0] == "pass" else [None] + slips
        for scene in scenes:
            for slip in hands:
                keys[(place, scene, slip)] = True
    return keys


def all_ways(view):
    scenes = scenes_of(view)
    ways = {}
    for end in ["done", "leave", "stop"] + slips_of(view.house):
        for scene in scenes:
            ways[(end, scene)] = True
    return ways


def are_of(things, known):
    return all([is_plain(thing) and thing in known for thing in things])


def is_way_list(thing, ways):
    return isinstance(thing, list) and are_of(thing, ways) and are_unlike(thing)


def is_table(view, thing):
    if not isinstance(thing, dict) or not are_of(thing, all_keys(view)):
        return False
    ways = all_ways(view)
    return all([is_way_list(listed, ways) for listed in thing.values()])


# The same table with its ways in dicts, in which they are found at once.
def with_known_ways(table):
    known = {}
    for key, ways in table.items():
        known[key] = dict([(way, True) for way in ways])
    return known


def has_all_due(view, known, key):
    seen = {}
    waiting = first_steps(view, key)
    while waiting:
        step = waiting.pop()
        stand = step[1]
        if stand is None:
            if step[2] not in known[key]:
                return False
        elif stand not in seen:
            seen[stand] = True
            if stand[1] not in known:
                return False
            for way in known[stand[1]]:
                waiting.extend(next_steps(view, stand, way))
    return True


def is_closed_in(view, table):
    if not is_table(view, table) or front_key(view) not in table:
        return False
    known = with_known_ways(table)
    return all([has_all_due(view, known, key) for key in known])


def is_closed(house, table):
    return is_closed_in(View(house, None), table)


def parts_at(table, key, slip):
    return [(key, way) for way in table.get(key, []) if way[0] == slip]


def parts_of_clean(table, key, meet):
    found = []
    for held in parts_at(table, (key[0] + (0,), key[1], key[2]), meet[2]):
        inner = (key[0] + (1,), held[1][1], key[2])
        for way in table.get(inner, []):
            if (way[0] == "done") == (meet[0] == "kept"):
                found.append([held, (inner, way)])
    return found


def parts_of_catch(view, table, key, meet):
    slip = meet[-1]
    taker = meet[2] if meet[0] == "take" else None
    if first_taker(view.house, view.deeds[key[0]], slip) != taker:
        return []
    return [[part] for part in parts_at(table, (key[0] + (0,), key[1], key[2]), slip)]


# The meet happens at this key behind deeds that were begun within, or of a
# called room, and ended: told are all lists of these, as tuples (key, way).
def parts_of_meet(view, table, key, meet):
    word = meet[0]
    if word == "slip" or word == "pass" and key[2] == meet[2]:
        return [[]]
    if word == "out":
        room = view.deeds[key[0]][1]
        return [[part] for part in parts_at(table, ((room,), key[1], None), meet[2])]
    if word in ("take", "by"):
        return parts_of_catch(view, table, key, meet)
    if word in ("kept", "lost"):
        return parts_of_clean(table, key, meet)
    return []


def lets(house, table, meet):
    view = View(house, None)
    if meet[0] == "end":
        return len(parts_at(table, front_key(view), meet[1])) > 0
    keys = [key for key in table if key[0] == meet[1]]
    return any([len(parts_of_meet(view, table, key, meet)) > 0 for key in keys])
