"""Runs done in another way than the program does them, and looked at from within.

Each deed is a call here, so a run may not go too deep.
"""

from slipcatch.houses import deed_at
from slipcatch.kinds import is_under


class Halt(Exception):
    def __init__(self, end, options=0):
        self.end = end
        self.options = options


class Watched:
    """One run: what it tells, and how each of its deeds was begun and ended."""

    def __init__(self, house, choices, most):
        self.house = house
        self.left = list(choices)
        self.most = most
        self.lit = set()
        self.trail = []
        # The keys of deeds that were begun, and (key, way) of those that ended.
        self.begun = []
        self.ended = []
        self.options = 0
        self.end = self.whole()

    def told(self):
        return (self.trail, self.end, len(self.begun))

    def whole(self):
        try:
            end = self.do((self.house[2][0][0],), None)
        except Halt as halt:
            self.options = halt.options
            return (halt.end,)
        if isinstance(end, tuple):
            self.trail.append(("end", end))
            return ("slip", end)
        return ("done",)

    def marks(self):
        return tuple(mark for mark in self.house[1] if mark in self.lit)

    def choice(self, options):
        if not self.left:
            raise Halt("waits", options)
        return self.left.pop(0) % options

    def do(self, place, hand):
        if len(self.begun) == self.most:
            raise Halt("long")
        key = (place, self.marks(), hand)
        self.begun.append(key)
        deed = deed_at(self.house, place)
        end = getattr(self, "do_" + deed[0])(place, hand, *deed[1:])
        self.ended.append((key, (end, self.marks())))
        return end

    def do_say(self, place, hand, word):
        self.trail.append(("say", place, word))
        return "done"

    def do_slip(self, place, hand, kind):
        self.trail.append(("slip", place))
        return place

    def do_pass(self, place, hand):
        self.trail.append(("pass", place, hand))
        return hand

    def do_leave(self, place, hand):
        return "leave"

    def do_stop(self, place, hand):
        return "stop"

    def do_on(self, place, hand, mark):
        self.lit.add(mark)
        return "done"

    def do_off(self, place, hand, mark):
        self.lit.discard(mark)
        return "done"

    def do_row(self, place, hand, *deeds):
        for number in range(len(deeds)):
            end = self.do(place + (number,), hand)
            if end != "done":
                return end
        return "done"

    def do_pick(self, place, hand, *deeds):
        return self.do(place + (self.choice(len(deeds)),), hand)

    def do_again(self, place, hand, deed):
        while self.choice(2) == 1:
            end = self.do(place + (0,), hand)
            if end == "stop":
                break
            if end != "done":
                return end
        return "done"

    def do_when(self, place, hand, mark, yes, no):
        return self.do(place + (int(mark not in self.lit),), hand)

    def do_call(self, place, hand, room):
        end = self.do((room,), None)
        if end in ("done", "leave"):
            return "done"
        self.trail.append(("out", place, end))
        return end

    def do_clean(self, place, hand, first, second):
        held = self.do(place + (0,), hand)
        end = self.do(place + (1,), hand)
        if isinstance(held, tuple):
            self.trail.append(("kept" if end == "done" else "lost", place, held))
        return held if end == "done" else end

    def do_catch(self, place, hand, deed, *takers):
        end = self.do(place + (0,), hand)
        if not isinstance(end, tuple):
            return end
        kind = deed_at(self.house, end)[1]
        for number, (over, taking) in enumerate(takers):
            if is_under(self.house[0], kind, over):
                self.trail.append(("take", place, number, end))
                return self.do(place + (1 + number,), end)
        self.trail.append(("by", place, end))
        return end


class Seen:
    """What happens in the runs of a house, tried one by one from the fewest choices on."""

    def __init__(self, house, most, runs):
        self.table = {}
        self.meets = set()
        # Whether no run was left out.
        self.all = True
        waiting = [[]]
        while waiting and runs:
            runs -= 1
            choices = waiting.pop(0)
            watched = Watched(house, choices, most)
            self.note(watched)
            waiting.extend(choices + [choice] for choice in range(watched.options))
        if waiting:
            self.all = False

    def note(self, watched):
        for key in watched.begun:
            self.table.setdefault(key, set())
        for key, way in watched.ended:
            self.table[key].add(way)
        self.meets.update(thing for thing in watched.trail if thing[0] != "say")
        if watched.end == ("long",):
            self.all = False
