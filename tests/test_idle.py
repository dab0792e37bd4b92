"""Points 18 and 4: idle places, and houses that are pruned of them."""

import copy
import random
import unittest

from slipcatch.houses import deed_at, places_of, why_no_house
from slipcatch.idle import idle_places, pruned
from slipcatch.runs import run
from slipcatch.shows import shown
from slipcatch.texts import show_house
from tests.reference import Seen
from tests.samples import EMPTY, F, HOUSE, at, good_house, house_of, lively_house


def text_of_rooms(house):
    return show_house(house).split("\n")[2:]


class IdleTest(unittest.TestCase):
    def idle(self, rooms, expected):
        self.assertEqual(idle_places(house_of(rooms)), expected, rooms)

    def test_nothing_is_idle(self):
        self.idle("{}", [])
        self.idle("{say a; pick {leave | slip io}}", [])
        self.idle(("front: call back", "back: {}"), [])

    def test_behind_what_is_never_done(self):
        self.idle("{leave; say a; {say b; say c}}", [at(1), at(2), at(2, 0), at(2, 1)])
        self.idle("{slip io; say a}", [at(1)])
        self.idle("{pick {leave | slip io}; say a}", [at(1)])
        self.idle("{pick {leave | say b}; say a}", [])

    def test_when(self):
        self.idle("when lit {say a; say b} else {}", [at(0), at(0, 0), at(0, 1)])
        self.idle("{on lit; when lit {} else say a}", [at(1, 1)])
        self.idle("again {when lit say a else say b; on lit}", [])

    def test_takers(self):
        self.idle("catch {} of any {say a; pass}", [at(1), at(1, 0), at(1, 1)])
        self.idle("catch slip disk of net say a of io {} of any say b", [at(1), at(3)])

    def test_again_and_clean_and_rooms_that_never_end(self):
        self.idle("{again leave; say a}", [])
        self.idle("front: {call front; say a}", [at(1)])
        self.idle("front: clean call front with {say a; {}}", [at(1), at(1, 0), at(1, 1)])
        self.idle("{clean {} with leave; say a}", [at(1)])

    def test_rooms(self):
        self.idle(("front: {leave; call back}", "back: {say a; call side}", "side: slip io"), [
            at(1), ("back",), ("back", 0), ("back", 1), ("side",)])
        # In the order of the house, each room's places together.
        self.idle(("front: {}", "side: {say a}", "back: {}"), [("side",), ("side", 0), ("back",)])

    def test_a_place_that_is_begun_in_another_state_alone(self):
        self.idle(("front: {on lit; call back}", "back: when lit {} else {}"), [("back", 1)])

    def test_just_what_is_begun_in_no_run(self):
        chance = random.Random(181)
        for step in range(60):
            house = lively_house(chance, 20) if step % 2 else good_house(chance, 20)
            seen = Seen(house, 60, 300)
            idle = idle_places(house)
            begun = {begun[0] for begun in seen.table}
            self.assertEqual(idle, [place for place in places_of(house) if place in idle])
            self.assertFalse(begun & set(idle))
            if seen.all:
                self.assertEqual(begun | set(idle), set(places_of(house)))

    def test_each_slip_that_is_not_idle_is_shown(self):
        chance = random.Random(182)
        for step in range(30):
            house = lively_house(chance, 30)
            idle = idle_places(house)
            for place in places_of(house):
                if deed_at(house, place)[0] == "slip":
                    self.assertEqual(shown(house, ("slip", place))[0], "never" if place in idle else "comes")


class PrunedTest(unittest.TestCase):
    def pruned(self, rooms, *expected):
        house = house_of(rooms)
        self.assertEqual(text_of_rooms(pruned(house)), [room if ": " in room else "front: " + room for room in expected])
        self.assertEqual(pruned(house)[:2], house[:2])

    def test_nothing_is_idle(self):
        for house in (house_of("{say a; pick {leave | slip io}}"), house_of("{}")):
            self.assertEqual(pruned(house), house)

    def test_each_sort_around_the_idle_place(self):
        self.pruned("{leave; say a; {say b; say c}}", "{leave; {}; {}}")
        self.pruned("when lit {say a; say b} else {say c}", "when lit {} else {say c}")
        self.pruned("{on lit; when lit say a else (again say b)}", "{on lit; when lit say a else {}}")
        self.pruned("{pick {leave | slip io}; pick {say a | say b}}", "{pick {leave | slip io}; {}}")
        self.pruned("{again {leave; say b}; say a}", "{again {leave; {}}; say a}")
        self.pruned("front: clean {call front; say b} with say a", "clean {call front; {}} with {}")

    def test_takers(self):
        self.pruned("catch {say a; leave} of any {say a; pass} of odd pass", "catch {say a; leave} of any {} of odd {}")
        self.pruned("catch slip disk of net say a of io say b of any pass", "catch slip disk of net {} of io say b of any {}")
        self.pruned("catch slip disk of io {pass; say a}", "catch slip disk of io {pass; {}}")

    def test_rooms(self):
        self.pruned(("front: {leave; call back}", "back: {say a; call side}", "side: slip io"),
                    "front: {leave; {}}", "back: {}", "side: {}")
        self.pruned(("front: call back", "back: say a", "side: {}"), "front: call back", "back: say a", "side: {}")

    def test_within_others(self):
        # Only the outermost of the idle places is put otherwise.
        self.pruned("catch {say a; {leave; {say b; {say c}}}} of any {say d}", "catch {say a; {leave; {}}} of any {}")

    def test_pruned_houses_at_random(self):
        chance = random.Random(183)
        idle_deeds = 0
        for step in range(120):
            house = lively_house(chance, 30) if step % 2 else good_house(chance, 30)
            less = pruned(house)
            self.assertIsNone(why_no_house(less))
            idle = idle_places(house)
            idle_deeds += len(idle)
            self.assertTrue(all(deed_at(less, place) == EMPTY for place in idle_places(less)))
            # Just those idle places stay that stand within no other one.
            outer = [place for place in idle if not any(place[:many] in idle for many in range(1, len(place)))]
            self.assertEqual(idle_places(less), outer)
            kept = [place for place in places_of(house) if place not in idle or place in outer]
            self.assertEqual(places_of(less), kept)
            self.assertEqual(pruned(less), less)
            for turn in range(8):
                choices = [chance.randrange(6) for number in range(chance.randrange(10))]
                most = chance.choice([3, 10, 300])
                self.assertEqual(run(less, choices, most), run(house, choices, most))
        self.assertGreater(idle_deeds, 100)


class OwnTest(unittest.TestCase):
    def test_what_is_told_is_the_askers_own_and_what_is_handed_in_stays(self):
        house = copy.deepcopy(HOUSE)
        first = idle_places(house)
        kept = list(first)
        self.assertIsInstance(first, list)
        self.assertNotEqual(first, [])
        first.clear()
        self.assertEqual(idle_places(house), kept)
        pruned(house)
        self.assertEqual(house, HOUSE)
        self.assertIsInstance(pruned(house), tuple)
        self.assertNotEqual(deed_at(house, kept[0]), deed_at(pruned(house), kept[0]))

    def test_the_front_room_is_never_idle(self):
        for house in (HOUSE, house_of("leave"), house_of("front: call front")):
            self.assertNotIn(F, idle_places(house))


if __name__ == "__main__":
    unittest.main()
