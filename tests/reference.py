"""Runs done in another way than the program does them, and looked at from within.

Each deed is a call here, so a run may not go too deep.
"""

from slipcatch.houses import deed_at
from slipcatch.kinds import is_under


class Halt(Exception):
    def __init__(self, end, options=0):
        self.end = end
        self.options = options


class Watched:
    """One run: what it tells, and how each of its deeds was begun and ended."""

    def __init__(self, house, choices, most, watcher=None):
        self.house = house
        self.left = list(choices)
        self.most = most
        self.watcher = watcher
        self.state = watcher and watcher[0][0]
        self.lit = set()
        self.trail = []
        # How many deeds were begun where each thing of the trail was told.
        self.told_at = []
        # The keys of deeds that were begun, and (key, way) of those that ended.
        self.begun = []
        self.ended = []
        # How many deeds were begun by each of those that ended, its own with them.
        self.spent = []
        self.options = 0
        self.end = self.whole()

    def tell(self, *thing):
        self.trail.append(thing)
        self.told_at.append(len(self.begun))

    def told(self):
        return (self.trail, self.end, len(self.begun))

    def whole(self):
        try:
            end = self.do((self.house[2][0][0],), None)
        except Halt as halt:
            self.options = halt.options
            return (halt.end,)
        if isinstance(end, tuple):
            self.tell("end", end)
            return ("slip", end)
        return ("done",)

    def marks(self):
        return tuple(mark for mark in self.house[1] if mark in self.lit)

    def scene(self):
        return (self.marks(), self.state) if self.watcher else self.marks()

    def choice(self, options):
        if not self.left:
            raise Halt("waits", options)
        return self.left.pop(0) % options

    def do(self, place, hand):
        if len(self.begun) == self.most:
            raise Halt("long")
        key = (place, self.scene(), hand)
        ahead = len(self.begun)
        self.begun.append(key)
        deed = deed_at(self.house, place)
        end = getattr(self, "do_" + deed[0])(place, hand, *deed[1:])
        self.ended.append((key, (end, self.scene())))
        self.spent.append(len(self.begun) - ahead)
        return end

    def do_say(self, place, hand, word):
        self.tell("say", place, word)
        if self.watcher and (self.state, word) in self.watcher[1]:
            self.state = self.watcher[1][(self.state, word)]
        return "done"

    def do_slip(self, place, hand, kind):
        self.tell("slip", place)
        return place

    def do_pass(self, place, hand):
        self.tell("pass", place, hand)
        return hand

    def do_leave(self, place, hand):
        return "leave"

    def do_stop(self, place, hand):
        return "stop"

    def do_on(self, place, hand, mark):
        self.lit.add(mark)
        return "done"

    def do_off(self, place, hand, mark):
        self.lit.discard(mark)
        return "done"

    def do_row(self, place, hand, *deeds):
        for number in range(len(deeds)):
            end = self.do(place + (number,), hand)
            if end != "done":
                return end
        return "done"

    def do_pick(self, place, hand, *deeds):
        return self.do(place + (self.choice(len(deeds)),), hand)

    def do_again(self, place, hand, deed):
        while self.choice(2) == 1:
            end = self.do(place + (0,), hand)
            if end == "stop":
                break
            if end != "done":
                return end
        return "done"

    def do_when(self, place, hand, mark, yes, no):
        return self.do(place + (int(mark not in self.lit),), hand)

    def do_call(self, place, hand, room):
        end = self.do((room,), None)
        if end in ("done", "leave"):
            return "done"
        self.tell("out", place, end)
        return end

    def do_clean(self, place, hand, first, second):
        held = self.do(place + (0,), hand)
        end = self.do(place + (1,), hand)
        if isinstance(held, tuple):
            self.tell("kept" if end == "done" else "lost", place, held)
        return held if end == "done" else end

    def do_catch(self, place, hand, deed, *takers):
        end = self.do(place + (0,), hand)
        if not isinstance(end, tuple):
            return end
        kind = deed_at(self.house, end)[1]
        for number, (over, taking) in enumerate(takers):
            if is_under(self.house[0], kind, over):
                self.tell("take", place, number, end)
                return self.do(place + (1 + number,), end)
        self.tell("by", place, end)
        return end


class Seen:
    """What happens in the runs of a house, tried one by one from the fewest choices on."""

    def __init__(self, house, most, runs):
        self.table = {}
        self.meets = set()
        # Whether no run was left out.
        self.all = True
        waiting = [[]]
        while waiting and runs:
            runs -= 1
            choices = waiting.pop(0)
            watched = Watched(house, choices, most)
            self.note(watched)
            waiting.extend(choices + [choice] for choice in range(watched.options))
        if waiting:
            self.all = False

    def note(self, watched):
        for key in watched.begun:
            self.table.setdefault(key, set())
        for key, way in watched.ended:
            self.table[key].add(way)
        self.meets.update(thing for thing in watched.trail if thing[0] != "say")
        if watched.end == ("long",):
            self.all = False


class Fewest:
    """By how few deeds each thing happens in any run that may begin so many, all of them tried."""

    def __init__(self, house, most, runs, watcher=None):
        self.keys = {}
        self.ways = {}
        self.meets = {}
        # How runs end, each with the fewest deeds.
        self.ends = {}
        # Whether no run was left out.
        self.all = True
        waiting = [[]]
        while waiting and self.all:
            choices = waiting.pop()
            watched = Watched(house, choices, most, watcher)
            self.note(watched)
            waiting.extend(choices + [choice] for choice in range(watched.options))
            runs -= 1
            self.all = runs > 0

    def note(self, watched):
        for ahead, key in enumerate(watched.begun):
            self.keys[key] = min(ahead, self.keys.get(key, ahead))
        for ended, many in zip(watched.ended, watched.spent):
            self.ways[ended] = min(many, self.ways.get(ended, many))
        for thing, many in zip(watched.trail, watched.told_at):
            self.meets[thing] = min(many, self.meets.get(thing, many))
        end = (watched.end, watched.state)
        self.ends[end] = min(len(watched.begun), self.ends.get(end, len(watched.begun)))
