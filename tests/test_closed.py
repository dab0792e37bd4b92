"""Point 14: of a dict whether it is a closed table."""

import copy
import random
import unittest

from slipcatch.houses import deed_at, places_of, slips_of
from slipcatch.tables import is_closed, table_of
from tests.samples import BOTH, F, HOUSE, LIT, OFF, WARM, at, good_house, greatest, house_of, key

MARKS = (OFF, LIT, WARM, BOTH)


class ClosedTest(unittest.TestCase):
    def closed(self, house, table):
        self.assertIs(is_closed(house, table), True, table)

    def open(self, house, table):
        self.assertIs(is_closed(house, table), False, table)


class LeastTest(ClosedTest):
    def test_the_least_one_and_without_any_one_thing(self):
        # Each closed table has all that the least one has, so none is closed that lacks a thing of it.
        chance = random.Random(40)
        for step in range(60):
            house = good_house(chance, 20)
            least = table_of(house)
            self.closed(house, least)
            for lost in least:
                self.open(house, {each: ways for each, ways in least.items() if each != lost})
                for way in least[lost]:
                    self.open(house, least | {lost: [other for other in least[lost] if other != way]})

    def test_in_any_order(self):
        least = table_of(HOUSE)
        self.closed(HOUSE, {each: least[each][::-1] for each in reversed(least)})

    def test_of_another_house(self):
        table = table_of(house_of("say a"))
        self.closed(house_of("say b"), table)
        for text in ("leave", "on lit", "slip io", "{say a}", "{leave}", "call front"):
            self.assertIs(is_closed(house_of(text), table), text == "call front", text)

    def test_the_front_key_is_asked(self):
        house = house_of("front: {}", "back: {}")
        self.open(house, {})
        self.open(house, {key(("back",)): [("done", OFF)]})
        self.open(house, {key(F, LIT): [("done", LIT)]})
        self.closed(house, {key(F): [("done", OFF)]})
        house = house_of("catch slip io of any {}")
        rest = {each: ways for each, ways in table_of(house).items() if each != key(F)}
        self.open(house, rest)
        # With a slip in hand it is another key.
        self.open(house, rest | {key(F, OFF, at(0)): [("done", OFF)], key(at(0), OFF, at(0)): [(at(0), OFF)]})


class GreaterTest(ClosedTest):
    def test_the_greatest(self):
        chance = random.Random(41)
        for step in range(15):
            house = good_house(chance, 12)
            self.closed(house, greatest(house))
            self.closed(house, table_of(house))

    def test_ways_that_nothing_asks_for(self):
        house = house_of("say a")
        for way in [(end, marks) for end in ("done", "leave", "stop") for marks in MARKS]:
            if way != ("done", OFF):
                self.closed(house, {key(F): [("done", OFF), way]})
                self.closed(house, {key(F): [way, ("done", OFF)]})

    def test_keys_that_nothing_asks_for(self):
        house = house_of("front: say a", "back: {say b}")
        least = table_of(house)
        more = {key(("back",), BOTH): [("done", BOTH)], key(("back", 0), BOTH): [("done", BOTH)]}
        self.closed(house, least | more)
        # But what is due at them has to be there too.
        self.open(house, least | {key(("back",), BOTH): [("done", BOTH)]})
        self.open(house, least | more | {key(("back",), BOTH): []})
        self.open(house, least | more | {key(("back", 0), BOTH): []})
        self.open(house, least | more | {key(F, LIT): []})

    def test_a_slip_in_hand_where_there_can_be_none(self):
        house = house_of("{catch slip io of any {}; say a}")
        slip = at(0, 0)
        more = {key(F, OFF, slip): [("done", OFF)], key(at(0), OFF, slip): [("done", OFF)],
                key(slip, OFF, slip): [(slip, OFF)], key(at(1), OFF, slip): [("done", OFF)]}
        self.closed(house, table_of(house) | more)
        for lost in list(more)[1:]:
            self.open(house, {each: ways for each, ways in (table_of(house) | more).items() if each != lost})

    # first and each of the rest are (key, way), or (key, None) for a key with no way of its own.
    def forces(self, rooms, first, rest):
        house = house_of(rooms)
        self.closed(house, self.grown(house, [first] + rest))
        for lost in rest:
            self.open(house, self.grown(house, [first] + [thing for thing in rest if thing != lost]))

    def grown(self, house, things):
        table = table_of(house)
        for begun, way in things:
            table.setdefault(begun, [])
            if way is not None:
                table[begun].append(way)
        return table

    def test_what_one_way_more_asks_for_in_a_row(self):
        text = "{say a; say b}"
        self.forces(text, (key(at(0)), ("leave", OFF)), [(key(F), ("leave", OFF))])
        self.forces(text, (key(at(0)), ("stop", WARM)), [(key(F), ("stop", WARM))])
        self.forces(text, (key(at(1)), ("done", WARM)), [(key(F), ("done", WARM))])
        self.forces(text, (key(at(0)), ("done", LIT)), [(key(at(1), LIT), ("done", LIT)), (key(F), ("done", LIT))])

    def test_in_a_pick_and_a_when(self):
        self.forces("pick {say a | say b | say c}", (key(at(2)), ("stop", LIT)), [(key(F), ("stop", LIT))])
        self.forces("when lit say a else say b", (key(at(1)), ("leave", LIT)), [(key(F), ("leave", LIT))])
        house = house_of("when lit say a else say b")
        # The other one's key is not asked by this one's marks.
        self.closed(house, table_of(house) | {key(at(0)): [("done", OFF), ("stop", OFF)]})
        self.forces("when lit say a else say b", (key(F, LIT), ("done", LIT)), [(key(at(0), LIT), ("done", LIT))])

    def test_in_an_again(self):
        text = "again say a"
        self.forces(text, (key(at(0)), ("done", LIT)), [(key(at(0), LIT), ("done", LIT)), (key(F), ("done", LIT))])
        self.forces(text, (key(at(0)), ("stop", LIT)), [(key(F), ("done", LIT))])
        self.forces(text, (key(at(0)), ("leave", LIT)), [(key(F), ("leave", LIT))])
        # On and on: what is due by the key that was due.
        house = house_of(text)
        table = self.grown(house, [
            (key(at(0)), ("done", LIT)), (key(at(0), LIT), ("done", LIT)), (key(F), ("done", LIT)),
            (key(at(0), LIT), ("leave", BOTH))])
        self.open(house, table)
        table[key(F)].append(("leave", BOTH))
        self.closed(house, table)

    def test_in_a_call(self):
        rooms = ("front: call back", "back: say a")
        back = key(("back",))
        self.forces(rooms, (back, ("leave", LIT)), [(key(F), ("done", LIT))])
        self.forces(rooms, (back, ("done", LIT)), [(key(F), ("done", LIT))])
        # A stop of a room's deed happens in no run, but a table may have it.
        self.forces(rooms, (back, ("stop", OFF)), [(key(F), ("stop", OFF))])
        rooms = ("front: call back", "back: {say a; slip io}")
        slip = ("back", 1)
        self.forces(rooms, (key(("back", 0)), (slip, WARM)), [(back, (slip, WARM)), (key(F), (slip, WARM))])
        self.forces(rooms, (key(F, LIT), (slip, LIT)), [
            (key(("back",), LIT), (slip, LIT)), (key(("back", 0), LIT), ("done", LIT)), (key(("back", 1), LIT), (slip, LIT))])

    def test_in_a_clean(self):
        text = "clean say a with say b"
        self.forces(text, (key(at(0)), ("leave", OFF)), [(key(F), ("leave", OFF))])
        self.forces(text, (key(at(0)), ("stop", LIT)), [(key(at(1), LIT), ("done", LIT)), (key(F), ("stop", LIT))])
        self.forces(text, (key(at(1)), ("leave", WARM)), [(key(F), ("leave", WARM))])
        self.forces(text, (key(at(1)), ("done", WARM)), [(key(F), ("done", WARM))])

    def test_in_a_catch(self):
        slip, other = at(0, 1), at(1)
        text = "catch {say a; slip io; slip odd} of any say b"
        odd = at(0, 2)
        self.forces(text, (key(at(0)), ("leave", LIT)), [(key(F), ("leave", LIT))])
        self.forces(text, (key(at(0)), (odd, OFF)), [(key(F), (odd, OFF))])
        self.forces(text, (key(at(0)), (slip, LIT)), [(key(at(1), LIT, slip), ("done", LIT)), (key(F), ("done", LIT))])
        self.forces(text, (key(other, OFF, slip), ("stop", WARM)), [(key(F), ("stop", WARM))])
        self.forces(text, (key(other, OFF, slip), (slip, OFF)), [(key(F), (slip, OFF))])

    def test_nothing_is_told_of_ways_that_are_not_due(self):
        # A taker's key that is begun by no slip of the 0 asks nothing of the catch.
        house = house_of("catch say a of any say b")
        table = table_of(house)
        self.closed(house, table)
        house = house_of("{slip io; catch say a of any say b}")
        self.closed(house, table_of(house) | {key(at(1, 1), OFF, at(0)): [("done", OFF), ("leave", OFF)]})


class PassTest(ClosedTest):
    def test_a_pass_without_a_slip_in_hand(self):
        house = house_of("catch slip io of any pass")
        slip = at(0)
        least = table_of(house)
        for ways in ([], [(slip, OFF)], [("done", OFF)]):
            self.open(house, least | {key(at(1)): ways})
        self.closed(house, least | {key(at(1), LIT, slip): [(slip, LIT)]})
        self.open(house, least | {key(at(1), LIT, slip): [(slip, OFF)]})

    def test_one_that_would_be_begun_by_a_key(self):
        for text in ("{{}; pass}", "pick {{} | pass}", "(again pass)", "(when lit {} else pass)", "(clean pass with {})",
                     "(clean {} with pass)", "(catch pass of any {})"):
            house = house_of("catch slip io of any " + text)
            other = house_of("catch slip io of any " + text.replace("pass", "say a"))
            whole = greatest(other)
            self.closed(other, whole)
            self.open(house, whole)
            self.open(house, {each: whole[each] for each in whole if each[2] or deed_at(house, each[0]) != ("pass",)})
            self.closed(house, greatest(house))
            self.open(house, greatest(house) | {key(at(1)): whole[key(F)]})

    def test_one_that_would_not(self):
        house = house_of("catch {on lit; slip io} of any (when lit pass else {})")
        slip = at(0, 1)
        least = table_of(house)
        more = {key(at(1)): [("done", OFF)], key(at(1, 1)): [("done", OFF)]}
        self.closed(house, least | more)
        self.open(house, least | {key(at(1), LIT): [(slip, LIT)]})
        house = house_of("catch slip io of any {leave; pass}")
        more = {key(at(1)): [("leave", OFF)], key(at(1, 0)): [("leave", OFF)]}
        self.closed(house, table_of(house) | more)
        more[key(at(1, 0))].append(("done", OFF))
        self.open(house, table_of(house) | more)


class NoTableTest(ClosedTest):
    def setUp(self):
        self.house = house_of("front: {on lit; catch {call back; on warm} of any pass}", "back: pick {slip io | {}}")
        self.slip = ("back", 0)
        self.least = table_of(self.house)

    def put(self, begun, ways):
        """The least table with one thing more, or one thing otherwise."""
        self.open(self.house, self.least | {begun: ways})

    def test_it_is_closed_as_it_is(self):
        self.closed(self.house, self.least)
        self.closed(self.house, self.least | {key(("back",), WARM): [("done", WARM), (self.slip, WARM)],
                                              key(self.slip, WARM): [(self.slip, WARM)],
                                              key(("back", 1), WARM): [("done", WARM)]})

    def test_a_way_twice(self):
        for begun, ways in self.least.items():
            for way in ways:
                self.put(begun, ways + [way])
                self.put(begun, [way] + ways)

    def test_marks_in_another_order_or_other_marks(self):
        back = ("back", 1)
        self.closed(self.house, self.least | {key(back, BOTH): [("done", BOTH)]})
        for marks in (("warm", "lit"), ("lit", "lit"), ("lit", "warm", "lit"), ("dim",), ("lit", "dim"), ("",), (0,), "lit", "",
                      None, 0, (("lit",),)):
            self.put(key(back, marks), [("done", marks)])
            self.put(key(back, marks), [("done", OFF)])
            self.put(key(F), self.least[key(F)] + [("done", marks)])
            self.put(key(F), self.least[key(F)] + [(self.slip, marks)])

    def test_a_place_that_there_is_not(self):
        for place in (("hall",), ("front", 2), ("front", -1), ("front", 0, 0), ("back", 0, 0), ("front", "0"), (), ("front", ()),
                      "front", "", 0, None, ("Front",), ("front", 10 ** 30), (("front",),)):
            for ways in ([], [("done", OFF)]):
                self.put((place, OFF, None), ways)
                self.put((place, OFF, self.slip), ways)

    def test_a_slip_that_is_none(self):
        back = ("back", 1)
        self.closed(self.house, self.least | {key(back, OFF, self.slip): [("done", OFF)]})
        for slip in (("back",), ("back", 1), ("front", 0), ("hall",), (), "slip", "back", "", 0, "io", ("back", 0, 0), ("back", 0, 1)):
            self.put(key(back, OFF, slip), [("done", OFF)])
            self.put(key(F), self.least[key(F)] + [(slip, LIT)])

    def test_ends_that_are_none(self):
        for end in ("dones", "", "Done", "slip", "pass", "waits", 0, 1, None, (), ("done",), ("back",)):
            self.put(key(F), self.least[key(F)] + [(end, LIT)])

    def test_truths_for_numbers(self):
        self.put((("back", True), OFF, None), [("done", OFF)])
        self.put(key(("back", 1), OFF, ("back", False)), [("done", OFF)])
        self.put(key(F), self.least[key(F)] + [(("back", False), BOTH)])
        # They are equal to the numbers, so the dict has them in the place of these.
        for begun in self.least:
            for number, truth in ((0, False), (1, True)):
                place = tuple(truth if part == number and isinstance(part, int) else part for part in begun[0])
                if repr(place) != repr(begun[0]):
                    other = {each: ways for each, ways in self.least.items() if each != begun}
                    self.open(self.house, other | {(place,) + begun[1:]: self.least[begun]})

    def test_keys_of_another_make(self):
        for begun in ((), (F,), (F, OFF), (F, OFF, None, None), F, "front", 0, None, True, ((F, OFF, None),), (OFF, F, None),
                      (F, None, OFF), (None, None, None), (F, OFF, OFF), (F, OFF, False), (F, OFF, 0)):
            for ways in ([], [("done", OFF)]):
                self.put(begun, ways)

    def test_ways_of_another_make(self):
        ways = self.least[key(F)]
        for way in ((), ("done",), ("done", LIT, LIT), (LIT, "done"), "done", None, 0, True, ["done", LIT], ["done", ["lit"]],
                    ("done", ["lit"]), (["back", 0], LIT), {"done": LIT}, {}, [], (None, LIT), (("done", LIT),), ("done", None),
                    ({}, LIT), ("done", {})):
            self.put(key(F), ways + [way])
            self.put(key(F), [way] + ways)
            self.put(key(F, WARM), [way])

    def test_lists_of_another_make(self):
        ways = self.least[key(F)]
        for thing in (tuple(ways), {way: True for way in ways}, None, 0, "", "done", (), {}, True, [ways], ways[0]):
            self.put(key(F), thing)
            self.put(key(F, WARM), thing)

    def test_four_thousand_keys(self):
        self.open(self.house, {(("front", number), OFF, None): [("done", OFF)] for number in range(4000)})
        more = {(("front", 5 + number), OFF, None): [] for number in range(4000 - len(self.least))}
        self.open(self.house, self.least | more)
        self.open(self.house, {number: [] for number in range(4000)})
        self.open(self.house, self.least | {key(F): [("done", OFF)] * 1000})

    def test_as_many_keys_and_ways_as_a_house_may_have(self):
        slips = "pick {slip a | slip b}"
        four = "{say a; say b; say c; {}}"
        rooms = ("front: {%s; %s; %s; %s}" % (slips, slips, slips, slips), "back: {%s; %s; %s; %s}" % (four, four, four, four))
        house = house_of(*(room.replace("slip a", "slip io").replace("slip b", "slip odd") for room in rooms))
        whole = greatest(house)
        self.assertEqual(len(whole), len(places_of(house)) * 4 * 9)
        self.closed(house, whole)
        lost = key(("back", 3, 3), BOTH, slips_of(house)[-1])
        self.open(house, {each: ways for each, ways in whole.items() if each != lost})
        self.open(house, whole | {lost: [way for way in whole[lost] if way != ("done", BOTH)]})
        self.open(house, whole | {lost: whole[lost] + whole[lost][:1]})

    def test_nothing_is_changed(self):
        for table in (self.least, self.least | {key(F): []}, self.least | {key(F): [["done", []]]}, {}, greatest(HOUSE)):
            kept = copy.deepcopy(table)
            first = is_closed(self.house, table)
            self.assertEqual(is_closed(self.house, table), first)
            self.assertEqual(table, kept)
            self.assertEqual(list(table), list(kept))


if __name__ == "__main__":
    unittest.main()
