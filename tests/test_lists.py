"""Point 17: what comes out of the rooms, the lowest lists, and lists that hold."""

import copy
import itertools
import random
import unittest

from slipcatch.houses import kind_of, room_names, slips_of
from slipcatch.kinds import is_under
from slipcatch.lists import comes_out, hold, lowest_lists
from slipcatch.texts import read_house
from tests.reference import Seen
from tests.samples import HOUSE, KINDS, at, good_house, house_of, lively_house

# Two trees; in the first one io stands over disk and net, and hot over dry and wet.
TREES = "kinds dry io/dry disk/io net/io hot/dry odd far/odd near/odd\nmarks lit\n"


def pick_of(kinds):
    """A text that slips by one of these kinds."""
    if len(kinds) == 1:
        return "slip " + kinds[0]
    return "pick {slip " + kinds[0] + " | " + pick_of(kinds[1:]) + "}"


class ComesOutTest(unittest.TestCase):
    def out(self, rooms, expected):
        told = comes_out(house_of(rooms))
        self.assertEqual(told, expected, rooms)

    def test_slips_in_the_order_of_places(self):
        self.out("pick {{say a; slip odd} | slip io | {slip disk; slip net}}", {"front": [at(0, 1), at(1), at(2, 0)]})
        self.out(("front: pick {call side | call back | slip io}", "back: slip net", "side: slip odd"), {
            "front": [at(2), ("back",), ("side",)], "back": [("back",)], "side": [("side",)]})

    def test_nothing(self):
        self.out("{}", {"front": []})
        self.out("catch slip io of any {}", {"front": []})
        self.out("clean slip io with leave", {"front": []})

    def test_a_room_that_is_never_called(self):
        self.out(("front: {leave; call back}", "back: slip io", "side: slip odd"), {"front": [], "back": [], "side": []})

    def test_a_room_that_calls_itself(self):
        self.out("front: pick {call front | {call front; slip odd} | slip io}", {"front": [at(2)]})
        self.out("front: pick {call front | {call front; slip odd} | pick {{} | slip io}}", {"front": [at(1, 1), at(2, 1)]})
        self.out("front: {call front; slip io}", {"front": []})

    def test_what_comes_out_of_a_room_and_is_taken_behind_the_call(self):
        self.out(("front: catch call back of io pass of odd {}", "back: pick {slip odd | slip io}"), {
            "front": [("back", 1)], "back": [("back", 0), ("back", 1)]})

    def test_each_way_to_slip(self):
        # From a slip itself, by a pass, past a catch, from a taker, kept and lost by a clean, from an again, a when.
        self.out("catch slip io of io pass", {"front": [at(0)]})
        self.out("catch slip odd of io {}", {"front": [at(0)]})
        self.out("catch slip io of io slip odd", {"front": [at(1)]})
        self.out("clean slip io with {}", {"front": [at(0)]})
        self.out("clean slip io with slip odd", {"front": [at(1)]})
        self.out("clean {} with slip odd", {"front": [at(1)]})
        self.out("again slip io", {"front": [at(0)]})
        self.out("when lit slip io else slip odd", {"front": [at(1)]})

    def test_a_room_by_the_marks_that_it_is_called_with(self):
        self.out(("front: {on lit; call back}", "back: when lit slip io else slip odd"), {
            "front": [("back", 0)], "back": [("back", 0)]})
        self.out(("front: pick {on lit | {}}", "back: slip io"), {"front": [], "back": []})
        self.out(("front: {pick {on lit | {}}; call back}", "back: when lit slip io else slip odd"), {
            "front": [("back", 0), ("back", 1)], "back": [("back", 0), ("back", 1)]})

    def test_the_front_room_where_it_is_called_too(self):
        # With lit it slips, and that comes out of some doing of it, though of no run.
        self.out("front: when lit slip io else {on lit; catch call front of any {}}", {"front": [at(0)]})

    def test_rooms_stand_in_the_order_of_the_house(self):
        house = house_of("front: {}", "side: {}", "back: {}")
        self.assertEqual(list(comes_out(house)), ["front", "side", "back"])

    def test_just_what_is_seen_in_runs(self):
        chance = random.Random(171)
        looked = 0
        for step in range(60):
            house = lively_house(chance, 16)
            seen = Seen(house, 60, 300)
            out = {room: set() for room in room_names(house)}
            for begun, ways in seen.table.items():
                if len(begun[0]) == 1:
                    out[begun[0][0]].update(end for end, marks in ways if isinstance(end, tuple))
            told = comes_out(house)
            for room, slips in told.items():
                self.assertEqual(slips, [slip for slip in slips_of(house) if slip in slips])
                self.assertTrue(out[room] <= set(slips))
                if seen.all:
                    self.assertEqual(out[room], set(slips))
                    looked += len(slips)
        self.assertGreater(looked, 20)


class LowestTest(unittest.TestCase):
    def lowest(self, kinds, expected, head=TREES):
        house = read_house(head + "front: " + pick_of(kinds.split(" ")))
        self.assertEqual(lowest_lists(house), {"front": expected.split(" ")}, kinds)

    def test_a_kind_over_two_makes_the_list_shorter(self):
        self.lowest("disk net", "io")
        self.lowest("disk hot", "dry")
        self.lowest("disk net hot", "dry")
        self.lowest("far near", "odd")

    def test_no_kind_stands_over_both(self):
        self.lowest("disk odd", "disk odd")
        self.lowest("far io", "io far")
        self.lowest("disk net far", "io far")
        self.lowest("disk hot far near", "dry odd")

    def test_a_lower_kind_would_do(self):
        # Not dry, though it stands over all of them, too.
        self.lowest("disk", "disk")
        self.lowest("disk disk", "disk")
        self.lowest("io disk", "io")
        self.lowest("io disk net", "io")
        self.lowest("dry net", "dry")

    def test_the_order_of_the_houses_kinds(self):
        self.lowest("near io", "io near")
        self.lowest("cc bb aa", "bb aa cc", "kinds bb aa cc\nmarks\n")

    def test_rooms_without_slips_have_empty_lists(self):
        self.assertEqual(lowest_lists(house_of("front: catch call back of any {}", "back: slip io", "side: slip odd")), {
            "front": [], "back": ["io"], "side": []})

    def test_as_short_and_as_low_as_can_be(self):
        chance = random.Random(172)
        names = [name for name, over in KINDS]
        for step in range(40):
            house = lively_house(chance, 24)
            told = lowest_lists(house)
            self.assertTrue(hold(house, told))
            out = comes_out(house)
            for room, listed in told.items():
                self.assertEqual(listed, [name for name in names if name in listed])
                slipping = {kind_of(house, slip) for slip in out[room]}
                # All lists of kinds that hold, tried one by one.
                holding = []
                for many in range(len(names) + 1):
                    for chosen in itertools.combinations(names, many):
                        if all(any(is_under(KINDS, kind, over) for over in chosen) for kind in slipping):
                            holding.append(list(chosen))
                self.assertEqual(len(listed), min(len(chosen) for chosen in holding))
                for place, kind in enumerate(listed):
                    for lower in names:
                        if lower != kind and is_under(KINDS, lower, kind):
                            other = sorted(set(listed[:place] + [lower] + listed[place + 1:]), key=names.index)
                            self.assertNotIn(other, holding)


class HoldTest(unittest.TestCase):
    house = house_of("front: catch call back of odd {}", "back: pick {slip disk | slip odd | slip net}", "side: slip odd")

    def test_lists_that_hold(self):
        for front, back in ((["io"], ["io", "odd"]), (["any"], ["odd", "any"]), (["disk", "net"], ["disk", "net", "odd"]),
                            (["odd", "io", "disk"], ["net", "odd", "io", "any", "disk"])):
            for side in ([], ["odd"], ["disk"]):
                self.assertIs(hold(self.house, {"front": front, "back": back, "side": side}), True)
                self.assertIs(hold(self.house, {"side": side, "back": back, "front": front}), True)

    def test_lists_that_do_not_hold(self):
        for front, back in (([], ["io", "odd"]), (["disk"], ["io", "odd"]), (["net", "odd"], ["io", "odd"]),
                            (["io"], ["io"]), (["io"], ["odd"]), (["io"], ["disk", "odd"]), (["io"], [])):
            self.assertIs(hold(self.house, {"front": front, "back": back, "side": []}), False)

    def test_dicts_that_are_no_lists(self):
        good = {"front": ["io"], "back": ["io", "odd"], "side": []}
        self.assertTrue(hold(self.house, good))
        for room in good:
            self.assertFalse(hold(self.house, {name: listed for name, listed in good.items() if name != room}), room)
        self.assertFalse(hold(self.house, {}))
        self.assertFalse(hold(self.house, dict(good, other=[])))
        self.assertFalse(hold(self.house, dict(good, other=["io"])))
        self.assertFalse(hold(self.house, {"front": ["io"], "back": ["io", "odd"], "sides": []}))
        for room, listed in good.items():
            self.assertFalse(hold(self.house, dict(good, **{room: listed + ["disk", "disk"]})), room)
            self.assertFalse(hold(self.house, dict(good, **{room: listed + ["none"]})), room)
            self.assertFalse(hold(self.house, dict(good, **{room: listed + [""]})), room)
            self.assertFalse(hold(self.house, dict(good, **{room: listed + ["side"]})), room)
            self.assertFalse(hold(self.house, dict(good, **{room: listed + ["lit"]})), room)
        self.assertFalse(hold(self.house, dict(good, front=["io", "io"])))

    def test_lowest_lists_hold_and_none_that_lack_a_kind(self):
        chance = random.Random(173)
        for step in range(30):
            house = good_house(chance, 24)
            told = lowest_lists(house)
            self.assertTrue(hold(house, told))
            for room, listed in told.items():
                for kind in listed:
                    less = dict(told)
                    less[room] = [other for other in listed if other != kind]
                    self.assertFalse(hold(house, less))


class OwnTest(unittest.TestCase):
    def test_what_is_told_is_the_askers_own(self):
        house = copy.deepcopy(HOUSE)
        for ask in (comes_out, lowest_lists):
            first = ask(house)
            kept = copy.deepcopy(first)
            self.assertTrue(any(first.values()))
            for listed in first.values():
                self.assertIsInstance(listed, list)
                listed.append("odd")
            first.clear()
            self.assertEqual(ask(house), kept)
        self.assertEqual(house, HOUSE)

    def test_what_is_handed_in_stays(self):
        lists = {"front": ["any"], "back": ["any", "odd"]}
        hold(HOUSE, lists)
        self.assertEqual(lists, {"front": ["any"], "back": ["any", "odd"]})


if __name__ == "__main__":
    unittest.main()
