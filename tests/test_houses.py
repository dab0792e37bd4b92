"""Points 6 and 7: places and their order, the deeds there, and the slips."""

import random
import unittest

from slipcatch.houses import deed_at, kind_of, places_of, slips_of, why_no_house
from tests.samples import BACK, EMPTY, FRONT, HOUSE, KINDS, SAY, count_deeds, one_room, random_house

PLACES = [
    ("front",),
    ("front", 0),
    ("front", 0, 0),
    ("front", 0, 1),
    ("front", 0, 2),
    ("front", 0, 2, 0),
    ("front", 0, 2, 1),
    ("front", 0, 2, 2),
    ("front", 1),
    ("front", 1, 0),
    ("front", 1, 0, 0),
    ("front", 1, 0, 1),
    ("front", 2),
    ("front", 2, 0),
    ("front", 2, 1),
    ("back",),
    ("back", 0),
    ("back", 1),
]
SLIPS = [("front", 1, 0, 1), ("back", 0)]


class PlacesTest(unittest.TestCase):
    def test_room_by_room_each_ahead_of_those_within_it(self):
        self.assertIsNone(why_no_house(HOUSE))
        self.assertEqual(places_of(HOUSE), PLACES)

    def test_one_room_with_one_deed(self):
        self.assertEqual(places_of(one_room(EMPTY)), [("front",)])
        self.assertEqual(places_of(one_room(("say", "row"))), [("front",)])

    def test_rooms_stand_in_the_order_of_the_house_not_of_their_names(self):
        house = (KINDS, (), (("zoo", SAY), ("attic", SAY), ("mid", ("again", SAY))))
        self.assertEqual(places_of(house), [("zoo",), ("attic",), ("mid",), ("mid", 0)])

    def test_numbers_of_each_sort(self):
        first = ("say", "a")
        second = ("say", "b")
        third = ("say", "c")
        for deed, inner in (
            (("row", first, second, third, SAY), [first, second, third, SAY]),
            (("pick", first, second, third), [first, second, third]),
            (("again", first), [first]),
            (("when", "lit", first, second), [first, second]),
            (("clean", first, second), [first, second]),
            (("catch", first, ("io", second), ("odd", third), ("any", SAY)), [first, second, third, SAY]),
        ):
            house = one_room(deed)
            self.assertEqual(places_of(house), [("front",)] + [("front", number) for number in range(len(inner))])
            self.assertEqual([deed_at(house, ("front", number)) for number in range(len(inner))], inner)

    def test_the_list_is_the_askers_own(self):
        told = places_of(HOUSE)
        told.reverse()
        told.append(("front", 9))
        self.assertEqual(places_of(HOUSE), PLACES)
        self.assertEqual(slips_of(HOUSE), SLIPS)

    def test_lists_are_lists_and_places_tuples(self):
        for told in (places_of(HOUSE), slips_of(HOUSE)):
            self.assertIs(told.__class__, list)
            for place in told:
                self.assertIs(place.__class__, tuple)

    def test_at_random(self):
        chance = random.Random(7)
        for step in range(300):
            house = random_house(chance)
            rooms = [room for room, deed in house[2]]
            if len(set(rooms)) < len(rooms):
                continue
            places = places_of(house)
            self.assertEqual(len(places), sum(count_deeds(deed) for room, deed in house[2]))
            # A tuple comes ahead of those that begin with it, so this is just the order that 7 tells.
            keys = [(rooms.index(place[0]),) + place[1:] for place in places]
            self.assertEqual(keys, sorted(set(keys)))
            slips = [place for place in places if deed_at(house, place)[0] == "slip"]
            self.assertEqual(slips_of(house), slips)


class DeedAtTest(unittest.TestCase):
    def test_the_rooms_own_deed(self):
        self.assertEqual(deed_at(HOUSE, ("front",)), FRONT)
        self.assertEqual(deed_at(HOUSE, ("back",)), BACK)

    def test_inwards(self):
        self.assertEqual(deed_at(HOUSE, ("front", 0, 1)), ("call", "back"))
        self.assertEqual(deed_at(HOUSE, ("front", 0, 2, 1)), ("off", "warm"))
        self.assertEqual(deed_at(HOUSE, ("front", 1)), ("again", ("when", "lit", ("stop",), ("slip", "net"))))
        self.assertEqual(deed_at(HOUSE, ("front", 1, 0, 0)), ("stop",))
        self.assertEqual(deed_at(HOUSE, ("front", 2, 0)), ("pass",))
        self.assertEqual(deed_at(HOUSE, ("front", 2, 1)), ("say", "bye"))
        self.assertEqual(deed_at(HOUSE, ("back", 1)), EMPTY)


class SlipsTest(unittest.TestCase):
    def test_in_the_order_of_places(self):
        self.assertEqual(slips_of(HOUSE), SLIPS)

    def test_none(self):
        self.assertEqual(slips_of(one_room(("say", "slip"))), [])

    def test_a_rooms_deed_may_be_a_slip(self):
        self.assertEqual(slips_of(one_room(("slip", "odd"))), [("front",)])

    def test_two_slips_of_one_kind_are_two(self):
        house = one_room(("row", ("slip", "odd"), ("slip", "odd")))
        self.assertEqual(slips_of(house), [("front", 0), ("front", 1)])

    def test_their_kinds(self):
        self.assertEqual([kind_of(HOUSE, slip) for slip in SLIPS], ["net", "disk"])

    def test_the_list_is_the_askers_own(self):
        slips_of(HOUSE).clear()
        self.assertEqual(slips_of(HOUSE), SLIPS)


if __name__ == "__main__":
    unittest.main()
