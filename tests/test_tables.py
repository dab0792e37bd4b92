"""Points 13 and 14: the least closed table, sort by sort and as a whole."""

import random
import unittest

from slipcatch.houses import deed_at, places_of, slips_of
from slipcatch.tables import is_closed, table_of
from slipcatch.texts import read_house
from tests.reference import Seen, Watched
from tests.samples import BOTH, F, HOUSE, LIT, OFF, WARM, at, good_house, house_of, key


def as_sets(table):
    return {begun: set(ways) for begun, ways in table.items()}


class TableTest(unittest.TestCase):
    def table(self, rooms, expected):
        house = house_of(rooms)
        told = table_of(house)
        self.assertEqual(as_sets(told), as_sets(expected), rooms)
        self.assertEqual([len(set(ways)) for ways in told.values()], [len(ways) for ways in told.values()])
        self.assertTrue(is_closed(house, told))


class SortsTest(TableTest):
    def test_say_and_leave(self):
        self.table("say hi", {key(F): [("done", OFF)]})
        self.table("leave", {key(F): [("leave", OFF)]})

    def test_on_and_off(self):
        self.table("on lit", {key(F): [("done", LIT)]})
        self.table("off lit", {key(F): [("done", OFF)]})
        # The marks stand in the order of the house, not in that in which they were put on.
        self.table("{on warm; on lit; off warm; off warm}", {
            key(F): [("done", LIT)],
            key(at(0)): [("done", WARM)],
            key(at(1), WARM): [("done", BOTH)],
            key(at(2), BOTH): [("done", LIT)],
            key(at(3), LIT): [("done", LIT)],
        })

    def test_slip(self):
        self.table("{on lit; slip io}", {
            key(F): [(at(1), LIT)], key(at(0)): [("done", LIT)], key(at(1), LIT): [(at(1), LIT)],
        })

    def test_pass(self):
        self.table("catch {on warm; slip io} of any pass", {
            key(F): [(at(0, 1), WARM)],
            key(at(0)): [(at(0, 1), WARM)],
            key(at(0, 0)): [("done", WARM)],
            key(at(0, 1), WARM): [(at(0, 1), WARM)],
            key(at(1), WARM, at(0, 1)): [(at(0, 1), WARM)],
        })

    def test_row(self):
        self.table("{}", {key(F): [("done", OFF)]})
        # Behind a deed that is never done nothing is begun.
        self.table("{say a; leave; say b}", {
            key(F): [("leave", OFF)], key(at(0)): [("done", OFF)], key(at(1)): [("leave", OFF)],
        })
        self.table("{pick {on lit | {} | slip io}; pick {leave | say a}}", {
            key(F): [("done", OFF), ("done", LIT), ("leave", OFF), ("leave", LIT), (at(0, 2), OFF)],
            key(at(0)): [("done", LIT), ("done", OFF), (at(0, 2), OFF)],
            key(at(0, 0)): [("done", LIT)],
            key(at(0, 1)): [("done", OFF)],
            key(at(0, 2)): [(at(0, 2), OFF)],
            key(at(1)): [("leave", OFF), ("done", OFF)],
            key(at(1), LIT): [("leave", LIT), ("done", LIT)],
            key(at(1, 0)): [("leave", OFF)],
            key(at(1, 0), LIT): [("leave", LIT)],
            key(at(1, 1)): [("done", OFF)],
            key(at(1, 1), LIT): [("done", LIT)],
        })

    def test_pick(self):
        self.table("pick {say a | leave | on lit}", {
            key(F): [("done", OFF), ("leave", OFF), ("done", LIT)],
            key(at(0)): [("done", OFF)],
            key(at(1)): [("leave", OFF)],
            key(at(2)): [("done", LIT)],
        })
        # A way of several of them stands there once.
        self.table("pick {say a | say b}", {
            key(F): [("done", OFF)], key(at(0)): [("done", OFF)], key(at(1)): [("done", OFF)],
        })

    def test_when(self):
        self.table("when lit say a else leave", {key(F): [("leave", OFF)], key(at(1)): [("leave", OFF)]})
        self.table("{on lit; when lit slip io else leave}", {
            key(F): [(at(1, 0), LIT)],
            key(at(0)): [("done", LIT)],
            key(at(1), LIT): [(at(1, 0), LIT)],
            key(at(1, 0), LIT): [(at(1, 0), LIT)],
        })

    def test_again(self):
        self.table("again say a", {key(F): [("done", OFF)], key(at(0)): [("done", OFF)]})
        self.table("again leave", {key(F): [("done", OFF), ("leave", OFF)], key(at(0)): [("leave", OFF)]})
        self.table("again slip io", {key(F): [("done", OFF), (at(0), OFF)], key(at(0)): [(at(0), OFF)]})
        # By marks that its deed puts on it is begun anew with these.
        self.table("again (when lit on warm else on lit)", {
            key(F): [("done", OFF), ("done", LIT), ("done", BOTH)],
            key(at(0)): [("done", LIT)],
            key(at(0), LIT): [("done", BOTH)],
            key(at(0), BOTH): [("done", BOTH)],
            key(at(0, 1)): [("done", LIT)],
            key(at(0, 0), LIT): [("done", BOTH)],
            key(at(0, 0), BOTH): [("done", BOTH)],
        })

    def test_again_begun_with_marks_on(self):
        self.table("{on lit; again off lit}", {
            key(F): [("done", LIT), ("done", OFF)],
            key(at(0)): [("done", LIT)],
            key(at(1), LIT): [("done", LIT), ("done", OFF)],
            key(at(1, 0), LIT): [("done", OFF)],
            key(at(1, 0)): [("done", OFF)],
        })

    def test_stop(self):
        # Behind a stop the again is done, and its deed is not begun anew with these marks.
        self.table("again {on lit; stop}", {
            key(F): [("done", OFF), ("done", LIT)],
            key(at(0)): [("stop", LIT)],
            key(at(0, 0)): [("done", LIT)],
            key(at(0, 1), LIT): [("stop", LIT)],
        })

    def test_call(self):
        self.table(("front: {on lit; call back}", "back: pick {leave | slip io | off lit}"), {
            key(F): [("done", LIT), ("done", OFF), (("back", 1), LIT)],
            key(at(0)): [("done", LIT)],
            key(at(1), LIT): [("done", LIT), ("done", OFF), (("back", 1), LIT)],
            key(("back",), LIT): [("leave", LIT), (("back", 1), LIT), ("done", OFF)],
            key(("back", 0), LIT): [("leave", LIT)],
            key(("back", 1), LIT): [(("back", 1), LIT)],
            key(("back", 2), LIT): [("done", OFF)],
        })

    def test_a_called_room_has_no_slip_in_hand(self):
        slip = at(0)
        self.table(("front: catch slip io of any call back", "back: say a", "side: say b"), {
            key(F): [("done", OFF)],
            key(slip): [(slip, OFF)],
            key(at(1), OFF, slip): [("done", OFF)],
            key(("back",)): [("done", OFF)],
        })

    def test_the_end_of_a_room_left_is_not_that_of_the_call(self):
        self.table(("front: {call back; say a}", "back: leave"), {
            key(F): [("done", OFF)],
            key(at(0)): [("done", OFF)],
            key(("back",)): [("leave", OFF)],
            key(at(1)): [("done", OFF)],
        })

    def test_clean(self):
        self.table("clean {on lit; slip io} with off lit", {
            key(F): [(at(0, 1), OFF)],
            key(at(0)): [(at(0, 1), LIT)],
            key(at(0, 0)): [("done", LIT)],
            key(at(0, 1), LIT): [(at(0, 1), LIT)],
            key(at(1), LIT): [("done", OFF)],
        })
        self.table("clean pick {leave | slip io} with pick {{} | slip odd}", {
            key(F): [("leave", OFF), (at(0, 1), OFF), (at(1, 1), OFF)],
            key(at(0)): [("leave", OFF), (at(0, 1), OFF)],
            key(at(0, 0)): [("leave", OFF)],
            key(at(0, 1)): [(at(0, 1), OFF)],
            key(at(1)): [("done", OFF), (at(1, 1), OFF)],
            key(at(1, 0)): [("done", OFF)],
            key(at(1, 1)): [(at(1, 1), OFF)],
        })

    def test_the_marks_of_a_clean_belong_to_its_ends(self):
        # Done with lit, left without it: what cleans is begun with each, and each end keeps its own marks.
        self.table("clean pick {on lit | leave} with (when lit {} else on warm)", {
            key(F): [("done", LIT), ("leave", WARM)],
            key(at(0)): [("done", LIT), ("leave", OFF)],
            key(at(0, 0)): [("done", LIT)],
            key(at(0, 1)): [("leave", OFF)],
            key(at(1), LIT): [("done", LIT)],
            key(at(1)): [("done", WARM)],
            key(at(1, 0), LIT): [("done", LIT)],
            key(at(1, 1)): [("done", WARM)],
        })

    def test_catch(self):
        first, second, third = at(0, 0), at(0, 1), at(0, 2)
        self.table("catch pick {slip disk | slip net | slip odd} of disk leave of io {pass; say a}", {
            key(F): [("leave", OFF), (second, OFF), (third, OFF)],
            key(at(0)): [(first, OFF), (second, OFF), (third, OFF)],
            key(first): [(first, OFF)],
            key(second): [(second, OFF)],
            key(third): [(third, OFF)],
            key(at(1), OFF, first): [("leave", OFF)],
            key(at(2), OFF, second): [(second, OFF)],
            key(at(2, 0), OFF, second): [(second, OFF)],
        })

    def test_a_catch_that_takes_nothing(self):
        for text, end in (("say a", "done"), ("leave", "leave")):
            self.table("catch " + text + " of any pass", {key(F): [(end, OFF)], key(at(0)): [(end, OFF)]})

    def test_the_slip_in_hand_goes_inwards(self):
        slip, younger = at(0), at(1, 0, 0)
        self.table("catch slip io of any {catch slip odd of odd {}; pass}", {
            key(F): [(slip, OFF)],
            key(slip): [(slip, OFF)],
            key(at(1), OFF, slip): [(slip, OFF)],
            key(at(1, 0), OFF, slip): [("done", OFF)],
            key(younger, OFF, slip): [(younger, OFF)],
            key(at(1, 0, 1), OFF, younger): [("done", OFF)],
            key(at(1, 1), OFF, slip): [(slip, OFF)],
        })


class MarksTest(unittest.TestCase):
    def test_no_marks(self):
        house = read_house("kinds a\nmarks\nfront: catch slip a of a pass")
        slip = at(0)
        expected = {key(F): [(slip, OFF)], key(slip): [(slip, OFF)], key(at(1), OFF, slip): [(slip, OFF)]}
        self.assertEqual(table_of(house), expected)
        self.assertTrue(is_closed(house, expected))
        self.assertFalse(is_closed(house, expected | {key(slip, LIT): [(slip, LIT)]}))

    def test_in_the_order_of_the_house_not_of_their_letters(self):
        house = read_house("kinds a\nmarks warm lit\nfront: {on lit; on warm}")
        both = ("warm", "lit")
        expected = {key(F): [("done", both)], key(at(0)): [("done", LIT)], key(at(1), LIT): [("done", both)]}
        self.assertEqual(table_of(house), expected)
        self.assertTrue(is_closed(house, expected))
        self.assertFalse(is_closed(house, expected | {key(F): [("done", both), ("done", BOTH)]}))
        self.assertFalse(is_closed(house, expected | {key(at(0), BOTH): [("done", BOTH)]}))


class CallsTest(TableTest):
    def test_a_room_that_calls_itself_for_ever_ends_by_no_way(self):
        self.table("call front", {key(F): []})
        self.table("{call front; say a}", {key(F): [], key(at(0)): []})
        self.table(("front: {on lit; call front}", "back: say a"), {
            key(F): [], key(at(0)): [("done", LIT)], key(at(1), LIT): [],
            key(F, LIT): [], key(at(0), LIT): [("done", LIT)],
        })

    def test_one_that_slips_at_last(self):
        self.table("pick {call front | slip io}", {
            key(F): [(at(1), OFF)], key(at(0)): [(at(1), OFF)], key(at(1)): [(at(1), OFF)],
        })

    def test_marks_that_grow_from_call_to_call(self):
        self.table("{when lit on warm else on lit; pick {call front | leave}}", {
            key(F): [("leave", LIT), ("done", BOTH)],
            key(F, LIT): [("leave", BOTH), ("done", BOTH)],
            key(F, BOTH): [("leave", BOTH), ("done", BOTH)],
            key(at(0)): [("done", LIT)],
            key(at(0), LIT): [("done", BOTH)],
            key(at(0), BOTH): [("done", BOTH)],
            key(at(0, 1)): [("done", LIT)],
            key(at(0, 0), LIT): [("done", BOTH)],
            key(at(0, 0), BOTH): [("done", BOTH)],
            key(at(1), LIT): [("leave", LIT), ("done", BOTH)],
            key(at(1), BOTH): [("leave", BOTH), ("done", BOTH)],
            key(at(1, 0), LIT): [("done", BOTH)],
            key(at(1, 0), BOTH): [("done", BOTH)],
            key(at(1, 1), LIT): [("leave", LIT)],
            key(at(1, 1), BOTH): [("leave", BOTH)],
        })

    def test_rooms_that_nothing_calls_have_no_key(self):
        told = table_of(house_of("front: say a", "back: call side", "side: slip io"))
        self.assertEqual(list(told), [key(F)])


class WholeTest(unittest.TestCase):
    def test_each_deed_of_a_run_stands_there_and_ends_so(self):
        chance = random.Random(30)
        for step in range(300):
            house = good_house(chance, 40)
            table = as_sets(table_of(house))
            for turn in range(8):
                watched = Watched(house, [chance.randrange(6) for choice in range(chance.randint(0, 20))], 150)
                for begun in watched.begun:
                    self.assertIn(begun, table, house)
                for begun, way in watched.ended:
                    self.assertIn(way, table[begun], house)

    def test_what_stands_there_does_happen(self):
        chance = random.Random(31)
        whole = 0
        for step in range(600):
            house = good_house(chance, 16)
            seen = Seen(house, 60, 300)
            self.assertEqual(as_sets(table_of(house)), seen.table, house)
            whole += seen.all
        # Most of them were tried to the last run; in the others some run shows each way all the same.
        self.assertGreater(whole, 300)
        self.assertLess(whole, 550)

    def test_it_is_closed_and_made_as_told(self):
        chance = random.Random(32)
        for step in range(200):
            house = good_house(chance, 40)
            told = table_of(house)
            self.assertIs(is_closed(house, told), True)
            self.assertIs(told.__class__, dict)
            places, slips = places_of(house), slips_of(house)
            for (place, marks, slip), ways in told.items():
                self.assertIn(place, places)
                self.assertIn(marks, (OFF, LIT, WARM, BOTH))
                self.assertTrue(slip in slips or slip is None and deed_at(house, place)[0] != "pass")
                self.assertIs(ways.__class__, list)
                self.assertEqual(len(set(ways)), len(ways))
                for end, marks_then in ways:
                    self.assertTrue(end in ("done", "leave", "stop") or end in slips)
                    self.assertIn(marks_then, (OFF, LIT, WARM, BOTH))

    def test_asked_again_it_tells_the_same_new(self):
        kept = as_sets(table_of(HOUSE))
        told = table_of(HOUSE)
        for ways in told.values():
            ways.append(("stop", BOTH))
        told[key(("back", 1))] = []
        self.assertEqual(as_sets(table_of(HOUSE)), kept)
        other = table_of(HOUSE)
        for ways in other.values():
            ways.clear()
        other.clear()
        self.assertEqual(as_sets(table_of(HOUSE)), kept)

    def test_no_two_lists_of_it_are_one(self):
        told = table_of(HOUSE)
        for begun, ways in told.items():
            before = as_sets(told)
            ways.append("mark")
            after = as_sets(told)
            self.assertEqual([each for each in told if after[each] != before[each]], [begun])
            ways.pop()


if __name__ == "__main__":
    unittest.main()
