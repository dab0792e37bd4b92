"""Points 22 and 4: a house made flat does the same as the house, whatever the choices."""

import copy
import random
import unittest

from slipcatch.deeds import inner_deeds
from slipcatch.flat import is_flat, made_flat
from slipcatch.flatruns import run_flat
from slipcatch.houses import places_of, why_no_house
from slipcatch.runs import run
from tests.samples import EMPTY, HOUSE, KINDS, MARKS, SAY, far_house, good_house, house_of, lively_house, nested, one_room

ROWS_A_DEED = 50
DEEDS = 400


class SameTest(unittest.TestCase):
    def same(self, house, flat, choices):
        """Tells how the run ends, or None where it is too long to be looked at."""
        trail, end, many = run(house, choices, DEEDS)
        if end == ("long",):
            return None
        self.assertEqual(run_flat(flat, choices, ROWS_A_DEED * many), (trail, end), (house, choices))
        return end

    def made(self, house):
        flat = made_flat(house)
        self.assertIs(is_flat(flat), True)
        self.assertEqual(flat[:2], house[:2])
        self.assertEqual([room[0] for room in flat[2]], [room[0] for room in house[2]])
        return flat

    def all_runs(self, *rooms):
        """From the fewest choices on, till nothing waits or some hundred runs are done; and all their ends are told."""
        house = house_of(*rooms)
        flat = self.made(house)
        ends = set()
        waiting = [[]]
        for turn in range(250):
            if not waiting:
                break
            choices = waiting.pop(0)
            end = self.same(house, flat, choices)
            ends.add(end)
            if end == ("waits",):
                waiting.extend(choices + [choice] for choice in range(6))
        return ends - {("waits",)}


class SortsTest(SameTest):
    def test_simple_deeds(self):
        for text in ("say a", "leave", "on lit", "off lit", "slip io", "{}", "{say a; say b}", "{say a; leave; say b}"):
            self.assertEqual(len(self.all_runs(text)), 1)

    def test_pick_and_when_and_again(self):
        self.all_runs("pick {say a | say b}")
        self.all_runs("{pick {on lit | {} | on warm}; when lit say a else {}; when warm {} else say b; say c}")
        self.all_runs("again say a")
        self.all_runs("{again pick {stop | say a | {on lit; leave}}; say b}")
        self.all_runs("again {again pick {stop | say a | {}}; pick {stop | say b}}")
        self.all_runs("again {}")
        self.all_runs("{again (again stop); say a}")

    def test_call(self):
        self.all_runs("front: {call back; say a; call back}", "back: pick {say b | {say c; leave; say d} | slip io}")
        self.all_runs("front: {pick {slip io | {} | call front}; say a}")
        self.all_runs("front: call back", "side: {}", "back: {call side; say b}")

    def test_catch(self):
        self.all_runs("{catch pick {slip disk | slip odd | say a} of net say b of io say c; say d}")
        self.all_runs("catch {say a; say b} of any say c")
        self.all_runs("catch {} of any say c")
        self.all_runs("{catch {catch {pick {slip disk | slip net | slip odd}; say x} of disk say a; say b} of io say c; say d}")
        self.all_runs("front: {catch call back of io say a of odd leave; say b}", "back: pick {slip io | slip odd | slip any}")

    def test_what_slips_in_a_taker_is_not_taken_beside_it(self):
        self.all_runs("catch slip io of io slip odd of odd say a")
        self.all_runs("catch (catch slip io of io slip odd) of odd say a")

    def test_takers_that_leave_or_stop(self):
        self.all_runs("{again {catch slip io of io pick {stop | leave | {}}; say a}; say b}")
        self.all_runs("{again {clean (catch slip io of io pick {stop | leave}) with say a; say b}; say c}")

    def test_passes(self):
        self.all_runs("catch slip io of io pass")
        self.all_runs("catch (catch slip io of io {say a; pass; say b}) of any {say c; pass}")
        self.all_runs("catch pick {slip disk | slip net} of disk pick {pass | {} | {say a; again pass}} of io (when lit {} else pass)")

    def test_catches_within_takers(self):
        # The inner taker has the inner slip in hand, and behind it the outer one has its own again.
        self.all_runs("catch slip io of io {catch slip odd of odd pick {pass | say a}; pass}")
        self.all_runs("catch slip io of io {catch pass of disk {} of any {say a; pass}; say b}")
        self.all_runs("catch slip io of io {catch (catch slip disk of disk {catch slip net of net {}; pass}) of disk {}; pass}")


class CleanTest(SameTest):
    def test_left_by_each_way(self):
        inside = "pick {say a | leave | pick {stop | slip io}}"
        for last in ("say b", "leave", "stop", "slip odd", "{}", "pick {say b | stop | {say c; slip net}}", "pick {leave | {} | stop}"):
            self.all_runs("{again {clean " + inside + " with " + last + "; say d}; say e}")
            self.all_runs("catch {again {clean " + inside + " with " + last + "; say d}; say e} of io {say f; pass} of odd say g")

    def test_cleans_within_the_0_of_cleans(self):
        inside = "pick {pick {say a | leave} | stop | pick {slip io | slip odd}}"
        for first, second in (("say b", "say c"), ("pick {say b | leave}", "say c"), ("say b", "pick {stop | {} | slip net}"),
                              ("slip disk", "slip net"), ("pick {slip disk | stop}", "pick {leave | say c}")):
            self.all_runs("{again (clean {clean " + inside + " with " + first + "; say x} with " + second + "); say y}")

    def test_three_of_them(self):
        self.all_runs("again (clean (clean (clean pick {leave | stop | slip io} with say a) with say b) with say c)")
        self.all_runs("again (clean (clean (clean pick {leave | stop | slip io} with pick {say a | slip odd}) with say b) with pick {say c | stop})")

    def test_catches_around_and_within(self):
        self.all_runs("catch (clean pick {slip disk | slip odd} with say a) of io say b")
        self.all_runs("catch (clean (catch slip disk of net say x) with pick {say a | slip net}) of net {say b; pass} of disk say c")
        self.all_runs("clean slip io with (catch pick {slip odd | slip net | {}} of odd pick {say a | leave | slip disk})")
        self.all_runs("clean (catch slip io of io (clean pick {pass | slip odd} with say a)) with say b")

    def test_within_takers_with_a_slip_in_hand(self):
        self.all_runs("catch slip io of io (clean pick {pass | {} | slip odd} with pick {pass | {} | say a})")
        self.all_runs("catch slip io of io {clean slip odd with (catch slip net of net {}); pass}")
        self.all_runs("catch slip io of io {clean {} with (catch slip net of net {}); pass}")

    def test_agains_within_cleans(self):
        # A stop in the 1 that stands in an again of its own stays there.
        self.all_runs("clean (again pick {stop | leave | slip io}) with (again pick {stop | say a | leave})")
        self.all_runs("again {clean (again pick {stop | say a}) with pick {say b | stop}; say c}")
        self.all_runs("again (clean (again stop) with (again stop))")

    def test_rooms_that_are_called_in_them(self):
        self.all_runs("front: clean call back with call side", "back: pick {{} | leave | slip io}", "side: pick {{} | leave | slip odd}")
        self.all_runs("front: clean pick {call front | slip io | {}} with say a")

    def test_marks_in_them(self):
        self.all_runs("clean pick {{on lit; slip io} | {on lit; leave} | {}} with (when lit {say a; off lit} else say b)")


class WholeTest(SameTest):
    def test_houses_at_random(self):
        chance = random.Random(221)
        ends = []
        for step in range(250):
            most = chance.choice([12, 24, 48])
            house = lively_house(chance, most) if step % 3 else good_house(chance, most)
            flat = self.made(house)
            for turn in range(6):
                choices = [chance.choice([0, 1, 2, 3, 10 ** 29 + 1]) for number in range(chance.randrange(14))]
                # For each number of choices.
                for many in range(len(choices) + 1):
                    end = self.same(house, flat, choices[:many])
                    ends.append(end and end[0])
        for word in ("done", "slip", "waits"):
            self.assertGreater(ends.count(word), 300, word)

    def test_the_greatest_houses(self):
        # As deep as may be, and with the most cleans and catches within one another.
        for sort, other in (("clean", SAY), ("catch", ("any", ("pass",))), ("catch", ("odd", EMPTY))):
            deed = ("slip", "io")
            for step in range(12):
                deed = (sort, deed, other)
            house = one_room(deed)
            self.assertIsNone(why_no_house(house))
            self.same(house, self.made(house), [])
        for depth in range(13):
            house = one_room(nested(("leave",), depth, "again"))
            self.same(house, self.made(house), [1] * depth)

    def test_as_many_cleans_as_there_may_be(self):
        # Side by side and within one another, 15 of them: no slot's number is too great.
        deed = ("slip", "io")
        for step in range(11):
            deed = ("clean", deed, SAY)
        more = ("clean", ("catch", ("slip", "odd"), ("odd", ("pass",))), ("catch", ("slip", "net"), ("net", SAY)))
        house = one_room(("row", ("catch", more, ("odd", EMPTY)), ("catch", more, ("any", EMPTY), ("odd", EMPTY)), deed))
        self.assertIsNone(why_no_house(house))
        self.assertGreater(len(places_of(house)), 38)
        self.assertEqual(self.same(house, self.made(house), []), ("slip", ("front", 2) + (0,) * 11))

    def test_many_deeds(self):
        house = far_house(10)
        trail, end, many = run(house, [], 5000)
        self.assertEqual(run_flat(made_flat(house), [], 60000), (trail, end))

    def test_a_room_that_calls_itself_for_ever(self):
        house = house_of("front: {say a; call front}")
        trail, end = run_flat(made_flat(house), [], 60000)
        self.assertEqual(end, ("long",))
        self.assertEqual(trail[:500], run(house, [], 5000)[0][:500])

    def test_a_house_that_says_nothing_of_marks(self):
        house = (KINDS[:1], (), (("front", ("pick", SAY, ("slip", "any"))),))
        flat = self.made(house)
        for choices in ([], [0], [1]):
            self.same(house, flat, choices)

    def test_what_is_handed_in_stays_and_the_same_is_told_of_the_same(self):
        house = copy.deepcopy(HOUSE)
        self.assertEqual(made_flat(house), made_flat(house))
        self.assertEqual(house, HOUSE)
        self.assertIsInstance(made_flat(house), tuple)

    def test_that_each_sort_of_deed_was_looked_at(self):
        sorts = set()
        waiting = [deed for room, deed in HOUSE[2]]
        while waiting:
            deed = waiting.pop()
            sorts.add(deed[0])
            waiting.extend(inner_deeds(deed))
        self.assertEqual(len(sorts), 14)
        flat = self.made(HOUSE)
        for choice in range(6):
            self.same(HOUSE, flat, [choice] * 5)
        self.assertEqual(MARKS, flat[1])


if __name__ == "__main__":
    unittest.main()
