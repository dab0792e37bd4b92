"""Points 16 and 4: a meet is shown by a run of the fewest deeds, or never comes."""

import copy
import random
import unittest

from slipcatch.errors import NoMeet, SlipError, TooFar
from slipcatch.meets import is_meet, meets_of
from slipcatch.prices import prices_of
from slipcatch.runs import run
from slipcatch.shows import has_meet, shown
from slipcatch.tables import is_closed, lets
from tests.reference import Fewest
from tests.samples import F, HOUSE, OFF, at, far_house, house_of, key, lively_house, very_far_house


class ShowsTest(unittest.TestCase):
    def look(self, house, meet, told):
        """What shown tells is true, as far as runs by the told choices and tables show it."""
        self.assertIsInstance(told, tuple)
        if told[0] == "comes":
            many, choices = told[1:]
            self.assertIs(type(many), int)
            self.assertIsInstance(choices, list)
            self.assertTrue(all(type(choice) is int and choice >= 0 for choice in choices))
            self.assertIn(meet, run(house, choices, many)[0])
            self.assertNotIn(meet, run(house, choices, many - 1)[0])
            self.assertTrue(has_meet(house, meet, choices))
        else:
            word, table = told
            self.assertEqual(word, "never")
            self.assertTrue(is_closed(house, table))
            self.assertFalse(lets(house, table, meet))

    def comes(self, rooms, meet, many):
        house = house_of(rooms)
        told = shown(house, meet)
        self.assertEqual(told[:2], ("comes", many), (rooms, meet))
        self.look(house, meet, told)
        # No run that may begin one deed fewer has it, whatever its choices.
        fewest = Fewest(house, many - 1, 5000)
        self.assertTrue(fewest.all)
        self.assertNotIn(meet, fewest.meets)

    def never(self, rooms, meet):
        house = house_of(rooms)
        told = shown(house, meet)
        self.assertEqual(told[0], "never", (rooms, meet))
        self.look(house, meet, told)


class ComesTest(ShowsTest):
    def test_slip(self):
        self.comes("slip io", ("slip", F), 1)
        self.comes("{say a; pick {say b | {say c; slip io}}}", ("slip", at(1, 1, 1)), 6)

    def test_slip_by_the_shorter_way_to_it(self):
        rooms = ("front: pick {{{}; call back} | call back | again {say a; say b; call back}}", "back: {say a; slip io}")
        self.comes(rooms, ("slip", ("back", 1)), 5)

    def test_slip_that_stands_behind_rounds(self):
        # Three rounds with other marks: off, lit, both.
        rooms = "again (when lit (when warm slip io else on warm) else on lit)"
        self.comes(rooms, ("slip", at(0, 0, 0)), 9)
        self.assertEqual([choice % 2 for choice in shown(house_of(rooms), ("slip", at(0, 0, 0)))[2]], [1, 1, 1])

    def test_pass(self):
        rooms = "catch pick {{say a; slip disk} | slip net | slip odd} of disk pass of io {say b; pass}"
        self.comes(rooms, ("pass", at(1), at(0, 0, 1)), 6)
        self.comes(rooms, ("pass", at(2, 1), at(0, 1)), 6)

    def test_take_is_told_ahead_of_the_takers_deed(self):
        rooms = "catch pick {slip disk | {say a; slip net}} of disk {} of io {{}; {}}"
        self.comes(rooms, ("take", F, 0, at(0, 0)), 3)
        self.comes(rooms, ("take", F, 1, at(0, 1, 1)), 5)

    def test_by(self):
        self.comes("catch pick {{} | {say a; slip odd}} of io {}", ("by", F, at(0, 1, 1)), 5)
        # The one catch is passed by what comes up from the taker of the other.
        self.comes("catch (catch slip io of io slip odd) of io {}", ("by", F, at(0, 1)), 4)

    def test_kept_and_lost(self):
        rooms = "clean pick {say a | slip io} with pick {{say b; say c} | leave | slip odd}"
        self.comes(rooms, ("kept", F, at(0, 1)), 7)
        self.comes(rooms, ("lost", F, at(0, 1)), 5)
        self.comes("clean slip io with pick {{say b; slip odd} | {}}", ("lost", F, at(0)), 6)

    def test_kept_by_the_marks_that_the_slip_leaves(self):
        # The short way to slip puts lit on, by which the 1 is long.
        rooms = "clean pick {{on lit; slip io} | {{}; {}; {}; slip io}} with (when lit {{}; {}; {}; {{}; {}}} else {})"
        self.comes(rooms, ("kept", F, at(0, 0, 1)), 13)
        self.comes(rooms, ("kept", F, at(0, 1, 3)), 9)

    def test_kept_and_lost_of_one_slip_by_unlike_ways(self):
        rooms = ("clean {pick {{} | on lit}; slip io} with (when lit {say a; leave} else {})",)
        self.comes(rooms, ("kept", F, at(0, 1)), 7)
        self.comes(rooms, ("lost", F, at(0, 1)), 9)

    def test_out(self):
        rooms = ("front: {say a; catch call back of any {}; call back}", "back: pick {say b | {say c; slip io}}")
        self.comes(rooms, ("out", at(1, 0), ("back", 1, 1)), 8)
        # Behind a room that is done by the short way, or by its slip that is taken: both are begun at least once.
        self.comes(rooms, ("out", at(2), ("back", 1, 1)), 11)

    def test_out_of_a_room_that_calls_itself(self):
        rooms = "front: pick {call front | slip io}"
        self.comes(rooms, ("out", at(0), at(1)), 4)

    def test_end(self):
        rooms = "pick {{say a; slip io} | clean slip odd with {say b; say c}}"
        self.comes(rooms, ("end", at(0, 1)), 4)
        self.comes(rooms, ("end", at(1, 0)), 6)
        self.comes("slip io", ("end", F), 1)

    def test_end_of_the_front_room_where_a_run_begins_and_not_where_it_is_called(self):
        # Called with lit it slips at once; a run without goes round by the call.
        rooms = "front: when lit slip io else {on lit; call front}"
        self.comes(rooms, ("end", at(0)), 6)

    def test_the_same_is_told_of_the_same(self):
        for meet in meets_of(HOUSE):
            self.assertEqual(shown(HOUSE, meet), shown(HOUSE, meet))


class NeverTest(ShowsTest):
    def test_slip(self):
        self.never("{leave; slip io}", ("slip", at(1)))
        self.never(("front: {}", "back: slip io"), ("slip", ("back",)))
        self.never("front: {call front; slip io}", ("slip", at(1)))

    def test_pass(self):
        self.never("catch pick {slip disk | slip odd} of disk pass", ("pass", at(1), at(0, 1)))

    def test_take_and_by(self):
        rooms = "catch pick {slip disk | slip odd} of disk {} of io {} of any {}"
        self.never(rooms, ("take", F, 1, at(0, 0)))
        self.never(rooms, ("take", F, 2, at(0, 1)))
        self.never(rooms, ("by", F, at(0, 0)))

    def test_kept_and_lost(self):
        self.never("clean slip io with leave", ("kept", F, at(0)))
        self.never("clean slip io with {}", ("lost", F, at(0)))
        self.never("clean {} with slip io", ("lost", F, at(1)))

    def test_out_and_end(self):
        rooms = ("front: catch call back of any {}", "back: pick {slip io | catch slip disk of disk {}}")
        self.never(rooms, ("out", at(0), ("back", 1, 0)))
        self.never(rooms, ("end", ("back", 0)))

    def test_the_told_table_is_the_askers_own(self):
        house = house_of("catch slip io of any {}")
        meet = ("end", at(0))
        told = shown(house, meet)
        kept = copy.deepcopy(told)
        for ways in told[1].values():
            ways.clear()
        told[1].clear()
        self.assertEqual(shown(house, meet), kept)

    def test_the_told_choices_are_the_askers_own(self):
        house = house_of("pick {{} | slip io}")
        first = shown(house, ("end", at(1)))
        first[2].append(5)
        self.assertEqual(shown(house, ("end", at(1))), ("comes", 2, first[2][:-1]))


class NoMeetTest(unittest.TestCase):
    def test_tuples_that_are_no_meets(self):
        slip = ("back", 0)
        catch, clean, call = F, at(2), at(0, 1)
        passing = at(2, 0)
        things = [
            (), ("slip",), ("odd", slip), ("say", F, "hi"), ("say", slip), ("end",), (slip,), (1, slip), ("front", 0),
            # Places that there are not, and of another sort.
            ("slip", ("back", 5)), ("slip", ("none",)), ("slip", F), ("slip", ()), ("slip", "back"), ("slip", 0),
            ("take", at(9), 0, slip), ("take", clean, 0, slip), ("by", call, slip), ("by", ("back", 0, 0), slip),
            ("kept", F, slip), ("kept", at(2, 1), slip), ("lost", catch, slip), ("lost", ("back",), slip),
            ("out", F, slip), ("out", at(0, 2), slip), ("pass", F, slip), ("pass", at(2, 1), slip),
            # Slips that are none.
            ("end", F), ("end", ("back",)), ("end", ("back", 7)), ("end", 0), ("end", "back"), ("end", ()),
            ("take", catch, 0, F), ("by", catch, at(0)), ("out", call, ("back", 1)), ("pass", passing, passing),
            ("kept", clean, clean), ("lost", clean, ("none",)),
            # A taker's number too great, or none.
            ("take", catch, 2, slip), ("take", catch, -1, slip), ("take", catch, "0", slip), ("take", catch, (), slip),
            # One part more or less.
            ("slip", slip, slip), ("take", catch, slip), ("take", catch, 0), ("take", catch, 0, slip, slip),
            ("by", catch), ("by", catch, 0, slip), ("by", catch, slip, slip), ("pass", passing), ("out", call),
            ("kept", clean), ("lost", clean, slip, 0), ("end", slip, slip), ("end", F, slip), ("out", slip),
        ]
        for thing in things:
            self.assertFalse(is_meet(HOUSE, thing), thing)
            with self.assertRaises(NoMeet, msg=thing):
                shown(HOUSE, thing)
        for thing in (("take", catch, 1, slip), ("kept", clean, slip), ("out", call, slip), ("pass", passing, slip)):
            shown(HOUSE, thing)

    def test_no_meet_goes_ahead_of_too_far(self):
        with self.assertRaises(NoMeet):
            shown(far_house(11), ("slip", F))


class FarTest(unittest.TestCase):
    slip = at(3)

    def test_just_three_thousand_deeds(self):
        house = far_house(10)
        self.assertEqual(run(house, [], 5000)[1:], (("slip", self.slip), 3000))
        for meet in (("slip", self.slip), ("end", self.slip)):
            self.assertEqual(shown(house, meet), ("comes", 3000, []))
        self.assertNotIn(("slip", self.slip), run(house, [], 2999)[0])

    def test_one_deed_more(self):
        house = far_house(11)
        self.assertEqual(run(house, [], 5000)[1:], (("slip", self.slip), 3001))
        for meet in (("slip", self.slip), ("end", self.slip)):
            with self.assertRaises(TooFar) as refusal:
                shown(house, meet)
            self.assertEqual(refusal.exception.many, 3001)
            self.assertIsInstance(refusal.exception, SlipError)
            # It does come, only not by few deeds.
            self.assertTrue(has_meet(house, meet, []))

    def test_very_many_deeds(self):
        house = very_far_house()
        many = run(house, [], 100000)[2]
        self.assertGreater(many, 30000)
        with self.assertRaises(TooFar) as refusal:
            shown(house, ("end", at(1)))
        self.assertEqual(refusal.exception.many, many)
        self.assertFalse(has_meet(house, ("end", at(1)), []))

    def test_a_far_meet_that_never_comes(self):
        house = far_house(11)
        house = house[:2] + ((("front", ("row", ("leave",), house[2][0][1])),) + house[2][1:],)
        told = shown(house, ("slip", at(1, 3)))
        self.assertEqual(told[0], "never")
        self.assertEqual(told[1], {key(F): [("leave", OFF)], key(at(0)): [("leave", OFF)]})

    def test_rooms_that_are_called_deep(self):
        # Each room calls the next state of itself; no call within a call of Python's own may go so deep.
        house = house_of("front: pick {call front | {slip io; {}}}")
        choices = [0] * 800 + [1]
        self.assertTrue(has_meet(house, ("end", at(1, 0)), choices))
        self.assertTrue(has_meet(house, ("out", at(0), at(1, 0)), choices))


class HasMeetTest(unittest.TestCase):
    def test_a_run_of_five_thousand_deeds(self):
        # 1 for the row, 1 for the again, 6 for each round, and the row with the slip.
        house = house_of("front: {again call back; {{}; slip io}}", "back: {say a; say b; say c; say d}")
        choices = [1] * 832 + [0]
        self.assertEqual(run(house, choices, 6000)[2], 4997)
        meet = ("end", at(1, 1))
        self.assertTrue(has_meet(house, meet, choices))
        longer = house_of("front: {{{}; {}}; again call back; {{}; slip io}}", "back: {say a; say b; say c; say d}")
        self.assertEqual(run(longer, choices, 6000)[2], 5000)
        self.assertTrue(has_meet(longer, ("end", at(2, 1)), choices))
        too_long = house_of("front: {{{}; {}; {}}; again call back; {{}; slip io}}", "back: {say a; say b; say c; say d}")
        self.assertEqual(run(too_long, choices, 6000)[2], 5001)
        self.assertFalse(has_meet(too_long, ("end", at(2, 1)), choices))
        self.assertTrue(has_meet(too_long, ("end", at(2, 1)), choices[1:]))

    def test_other_choices(self):
        house = house_of("pick {say a | slip io | slip odd}")
        self.assertTrue(has_meet(house, ("slip", at(1)), [1]))
        self.assertTrue(has_meet(house, ("slip", at(1)), [10 ** 29 + 3]))
        self.assertFalse(has_meet(house, ("slip", at(1)), [2]))
        self.assertFalse(has_meet(house, ("slip", at(1)), []))
        self.assertFalse(has_meet(house, ("slip", at(1)), [0, 1]))

    def test_what_is_handed_in_stays(self):
        house = copy.deepcopy(HOUSE)
        choices = [3, 1, 4]
        for meet in meets_of(house):
            has_meet(house, meet, choices)
            shown(house, meet)
        self.assertEqual(house, HOUSE)
        self.assertEqual(choices, [3, 1, 4])


class WholeTest(ShowsTest):
    def test_every_meet_of_houses_at_random(self):
        chance = random.Random(163)
        shows = {}
        for step in range(60):
            house = lively_house(chance, chance.choice([12, 20, 30]))
            most = 16
            fewest = Fewest(house, most, 1500)
            if not fewest.all:
                continue
            for meet in meets_of(house):
                told = shown(house, meet)
                self.look(house, meet, told)
                many = told[1] if told[0] == "comes" else most + 1
                self.assertEqual(fewest.meets.get(meet), many if many <= most else None, (house, meet))
                shows.setdefault((meet[0], told[0]), []).append(meet)
        for word in ("slip", "pass", "take", "by", "kept", "lost", "out", "end"):
            self.assertGreaterEqual(len(shows.get((word, "comes"), [])), 2, word)
            self.assertGreaterEqual(len(shows.get((word, "never"), [])), 2, word)

    def test_the_number_of_deeds_is_that_of_the_prices(self):
        chance = random.Random(164)
        for step in range(20):
            house = lively_house(chance, 40)
            keys, ways = prices_of(house)
            for meet in meets_of(house):
                told = shown(house, meet)
                if told[0] == "comes" and meet[0] == "slip":
                    self.assertEqual(told[1], 1 + min(price for begun, price in keys.items() if begun[0] == meet[1]))
                if told[0] == "comes" and meet[0] == "end":
                    front = key((house[2][0][0],))
                    prices = [price for ended, price in ways.items() if ended[0] == front and ended[1][0] == meet[1]]
                    self.assertEqual(told[1], min(prices))


if __name__ == "__main__":
    unittest.main()
