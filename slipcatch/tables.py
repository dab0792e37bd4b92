"""Tables: by which ways each deed may end, in whatever state it is begun."""

from slipcatch.deeds import is_plain
from slipcatch.houses import are_unlike, deed_at, first_taker, places_of, slips_of
from slipcatch.runs import is_slip, marks_behind, simple_end


def front_key(house):
    return ((house[2][0][0],), (), None)


# A look at one key: the keys and ways that are found to be due there by a table.
class Look:
    def __init__(self, house, table, key):
        self.house = house
        self.table = table
        self.place = key[0]
        self.marks = key[1]
        self.slip = key[2]
        self.deed = deed_at(house, key[0])
        self.due_keys = {}
        self.due_ways = {}

    def need_way(self, end, marks):
        self.due_ways[(end, marks)] = True

    def ways_at(self, key):
        self.due_keys[key] = True
        return self.table.get(key, [])

    def ways_within(self, number, marks, slip):
        return self.ways_at((self.place + (number,), marks, slip))

    def need_ways_within(self, number, marks, slip):
        for end, marks_then in self.ways_within(number, marks, slip):
            self.need_way(end, marks_then)


def look_at_simple(look):
    end = simple_end(look.place, look.deed, look.slip)
    look.need_way(end, marks_behind(look.house, look.deed, look.marks))


def look_at_row(look):
    reached = {look.marks: True}
    for number in range(len(look.deed) - 1):
        behind = {}
        for marks in reached:
            for end, marks_then in look.ways_within(number, marks, look.slip):
                if end == "done":
                    behind[marks_then] = True
                else:
                    look.need_way(end, marks_then)
        reached = behind
    for marks in reached:
        look.need_way("done", marks)


def look_at_pick(look):
    for number in range(len(look.deed) - 1):
        look.need_ways_within(number, look.marks, look.slip)


def look_at_again(look):
    reached = {look.marks: True}
    waiting = [look.marks]
    while waiting:
        marks = waiting.pop()
        look.need_way("done", marks)
        for end, marks_then in look.ways_within(0, marks, look.slip):
            if end == "done" and marks_then not in reached:
                reached[marks_then] = True
                waiting.append(marks_then)
            look.need_way("done" if end == "stop" else end, marks_then)


def look_at_when(look):
    look.need_ways_within(0 if look.deed[1] in look.marks else 1, look.marks, look.slip)


def look_at_call(look):
    for end, marks in look.ways_at(((look.deed[1],), look.marks, None)):
        look.need_way("done" if end == "leave" else end, marks)


def look_at_clean(look):
    for held, marks in look.ways_within(0, look.marks, look.slip):
        for end, marks_then in look.ways_within(1, marks, look.slip):
            look.need_way(held if end == "done" else end, marks_then)


def look_at_catch(look):
    for end, marks in look.ways_within(0, look.marks, look.slip):
        number = first_taker(look.house, look.deed, end) if is_slip(end) else None
        if number is None:
            look.need_way(end, marks)
        else:
            look.need_ways_within(1 + number, marks, end)


def look_by_sort(look):
    sort = look.deed[0]
    if sort == "row":
        look_at_row(look)
    elif sort == "pick":
        look_at_pick(look)
    elif sort == "again":
        look_at_again(look)
    elif sort == "when":
        look_at_when(look)
    elif sort == "call":
        look_at_call(look)
    elif sort == "clean":
        look_at_clean(look)
    elif sort == "catch":
        look_at_catch(look)
    else:
        look_at_simple(look)


def look_at(house, table, key):
    look = Look(house, table, key)
    look_by_sort(look)
    return look


# A table that grows from the front key on by what is due, and by nothing else.
class Growth:
    def __init__(self, house):
        self.house = house
        self.table = {}
        # Of each key, those at which its ways were asked for.
        self.askers = {}
        # Keys that are to be looked at, as a list and as a dict.
        self.waiting = []
        self.waits = {}

    def put_off(self, key):
        if key not in self.waits:
            self.waits[key] = True
            self.waiting.append(key)

    def need_key(self, key, asker):
        if key not in self.table:
            self.table[key] = []
            self.put_off(key)
        askers = self.askers.setdefault(key, {})
        askers[asker] = True

    def look_once(self):
        key = self.waiting.pop()
        self.waits.pop(key)
        look = look_at(self.house, self.table, key)
        for needed in look.due_keys:
            self.need_key(needed, key)
        ways = [way for way in look.due_ways if way not in self.table[key]]
        if ways:
            self.table[key].extend(ways)
            for asker in self.askers[key]:
                self.put_off(asker)


def table_of(house):
    growth = Growth(house)
    # Nothing asks for the front key but a run's beginning.
    growth.need_key(front_key(house), front_key(house))
    while growth.waiting:
        growth.look_once()
    return growth.table


def marks_sets(house):
    found = [()]
    for mark in house[1]:
        found = found + [marks + (mark,) for marks in found]
    return found


# All that a table may have as keys; a pass is begun with a slip in hand alone.
def all_keys(house):
    slips = slips_of(house)
    keys = {}
    for place in places_of(house):
        hands = slips if deed_at(house, place)[0] == "pass" else [None] + slips
        for marks in marks_sets(house):
            for slip in hands:
                keys[(place, marks, slip)] = True
    return keys


def all_ways(house):
    ways = {}
    for end in ["done", "leave", "stop"] + slips_of(house):
        for marks in marks_sets(house):
            ways[(end, marks)] = True
    return ways


def are_of(things, known):
    return all([is_plain(thing) and thing in known for thing in things])


def is_way_list(thing, ways):
    return isinstance(thing, list) and are_of(thing, ways) and are_unlike(thing)


def is_table(house, thing):
    if not isinstance(thing, dict) or not are_of(thing, all_keys(house)):
        return False
    ways = all_ways(house)
    return all([is_way_list(listed, ways) for listed in thing.values()])


def has_all_due(house, table, key):
    look = look_at(house, table, key)
    if not all([needed in table for needed in look.due_keys]):
        return False
    return all([way in table[key] for way in look.due_ways])


def is_closed(house, table):
    if not is_table(house, table) or front_key(house) not in table:
        return False
    return all([has_all_due(house, table, key) for key in table])


def ends_at(table, key):
    return [end for end, marks in table.get(key, [])]


def lets_kept_or_lost(table, key, meet):
    for held, marks in table.get((key[0] + (0,), key[1], key[2]), []):
        if held == meet[2]:
            ends = ends_at(table, (key[0] + (1,), marks, key[2]))
            if any([(end == "done") == (meet[0] == "kept") for end in ends]):
                return True
    return False


def lets_take_or_by(house, table, key, meet):
    slip = meet[-1]
    taker = meet[2] if meet[0] == "take" else None
    if first_taker(house, deed_at(house, key[0]), slip) != taker:
        return False
    return slip in ends_at(table, (key[0] + (0,), key[1], key[2]))


def lets_at(house, table, key, meet):
    word = meet[0]
    if word == "slip":
        return True
    if word == "pass":
        return key[2] == meet[2]
    if word == "out":
        room = deed_at(house, key[0])[1]
        return meet[2] in ends_at(table, ((room,), key[1], None))
    if word in ("take", "by"):
        return lets_take_or_by(house, table, key, meet)
    return lets_kept_or_lost(table, key, meet)


def lets(house, table, meet):
    if meet[0] == "end":
        return meet[1] in ends_at(table, front_key(house))
    keys = [key for key in table if key[0] == meet[1]]
    return any([lets_at(house, table, key, meet) for key in keys])
