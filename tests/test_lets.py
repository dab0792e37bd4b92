"""Point 15: which meets a table lets, and that these are just what happens; point 4 as far as it speaks of tables."""

import copy
import random
import unittest

from slipcatch.houses import slips_of
from slipcatch.meets import meets_of
from slipcatch.runs import run
from slipcatch.tables import is_closed, lets, table_of
from tests.reference import Seen
from tests.samples import F, HOUSE, LIT, OFF, WARM, at, good_house, greatest, house_of, key


def let_by(house, table):
    return {meet for meet in meets_of(house) if lets(house, table, meet)}


class LetsTest(unittest.TestCase):
    def least(self, rooms, expected):
        """Just these of all meets are let by the least table."""
        house = house_of(rooms)
        self.assertEqual(let_by(house, table_of(house)), set(expected), rooms)

    def test_slip_and_end(self):
        self.least("slip io", [("slip", F), ("end", F)])
        self.least("{leave; slip io}", [])
        self.least("{slip io; slip odd}", [("slip", at(0)), ("end", at(0))])
        self.least("{when lit slip io else {}; on lit; when lit slip odd else {}}", [("slip", at(2, 0)), ("end", at(2, 0))])

    def test_end_is_asked_of_the_front_key(self):
        # With lit the front room slips, but a run begins without.
        house = house_of("front: when lit slip io else {on lit; catch call front of any {}}")
        slip = at(0)
        self.assertEqual(let_by(house, table_of(house)), {
            ("slip", slip), ("out", at(1, 1, 0), slip), ("take", at(1, 1), 0, slip)})

    def test_pass(self):
        first, second = at(0, 0), at(0, 1)
        self.least("catch pick {slip disk | slip odd} of io pass of odd leave", [
            ("slip", first), ("slip", second), ("take", F, 0, first), ("take", F, 1, second), ("pass", at(1), first),
            ("end", first)])

    def test_take_and_by(self):
        first, second, third = at(0, 0), at(0, 1), at(0, 2)
        self.least("catch pick {slip disk | slip net | slip odd} of disk {} of io {} of disk {}", [
            ("slip", first), ("slip", second), ("slip", third), ("take", F, 0, first), ("take", F, 1, second),
            ("by", F, third), ("end", third)])

    def test_what_slips_in_a_taker_is_not_taken_beside_it(self):
        first, second = at(0), at(1)
        self.least("catch slip io of io slip odd of odd {}", [
            ("slip", first), ("take", F, 0, first), ("slip", second), ("end", second)])

    def test_kept_and_lost(self):
        slip, other = at(0), at(1, 1)
        self.least("clean slip io with {}", [("slip", slip), ("kept", F, slip), ("end", slip)])
        self.least("clean slip io with leave", [("slip", slip), ("lost", F, slip)])
        self.least("clean slip io with pick {{} | slip odd}", [
            ("slip", slip), ("slip", other), ("kept", F, slip), ("lost", F, slip), ("end", slip), ("end", other)])
        self.least("clean {} with slip odd", [("slip", at(1)), ("end", at(1))])
        self.least("again (clean slip io with stop)", [("slip", at(0, 0)), ("lost", at(0), at(0, 0))])

    def test_kept_by_the_marks_of_the_same_way(self):
        # One slips with lit on, the other without: what cleans is done with lit alone.
        first, second = at(0, 0, 1), at(0, 1)
        self.least("clean pick {{on lit; slip io} | slip odd} with (when lit {} else leave)", [
            ("slip", first), ("slip", second), ("kept", F, first), ("lost", F, second), ("end", first)])

    def test_out(self):
        slip = ("back", 0)
        rooms = ("front: {call back; call back}", "back: pick {slip io | {}}")
        self.least(rooms, [("slip", slip), ("out", at(0), slip), ("out", at(1), slip), ("end", slip)])
        rooms = ("front: {call back; on lit; call back}", "back: when lit {} else slip io")
        self.least(rooms, [("slip", ("back", 1)), ("out", at(0), ("back", 1)), ("end", ("back", 1))])

    def test_out_by_the_marks_of_the_call(self):
        slip = ("back", 0)
        rooms = ("front: {call back; on lit; catch call back of any {}; call back}", "back: when lit slip io else {}")
        self.least(rooms, [("slip", slip), ("out", at(2, 0), slip), ("take", at(2), 0, slip), ("out", at(3), slip),
                           ("end", slip)])

    def test_nothing_where_a_call_never_ends(self):
        self.least("{call front; slip io}", [])
        self.least("catch {call front; slip io} of any pass", [])
        self.least("clean slip io with call front", [("slip", at(0))])

    def test_the_whole_of_a_house(self):
        slip = ("back", 0)
        self.assertEqual(let_by(HOUSE, table_of(HOUSE)), {("slip", slip), ("out", at(0, 1), slip), ("take", F, 0, slip)})


class GreaterTest(unittest.TestCase):
    def let(self, rooms, more, meets):
        """The least table with these ways more is closed, and lets just these meets more."""
        house = house_of(rooms)
        table = table_of(house)
        before = let_by(house, table)
        for begun, ways in more.items():
            table[begun] = table.get(begun, []) + ways
        self.assertTrue(is_closed(house, table), rooms)
        self.assertEqual(let_by(house, table) - before, set(meets), rooms)
        self.assertEqual(before - let_by(house, table), set())

    def test_slip(self):
        self.let("{leave; slip io}", {key(at(1), WARM): [(at(1), WARM)]}, [("slip", at(1))])

    def test_pass(self):
        text = "{catch slip io of any pass; slip odd}"
        odd = at(1)
        self.let(text, {key(at(0, 1), LIT, odd): [(odd, LIT)]}, [("pass", at(0, 1), odd)])

    def test_end(self):
        self.let("{leave; slip io}", {key(F): [(at(1), WARM)]}, [("end", at(1))])
        self.let("{leave; slip io}", {key(F, LIT): [(at(1), WARM), ("leave", LIT)], key(at(0), LIT): [("leave", LIT)]}, [])

    def test_take_and_by(self):
        text = "{leave; catch {leave; slip io; slip odd} of disk {} of any {}}"
        catch, io, odd = at(1), at(1, 0, 1), at(1, 0, 2)
        inner = {key(at(1, 0), LIT): [("leave", LIT)], key(at(1, 0, 0), LIT): [("leave", LIT)]}
        whole = {key(catch, LIT): [("leave", LIT)]} | inner
        self.let(text, whole, [])
        # At a key of the 0 that no key of the catch goes with, nothing is let.
        self.let(text, inner | {key(at(1, 0), LIT): [("leave", LIT), (io, LIT)]}, [])
        taken = {key(at(1, 0), LIT): [("leave", LIT), (io, LIT)], key(at(1, 2), LIT, io): [("done", LIT)],
                 key(catch, LIT): [("leave", LIT), ("done", LIT)]}
        self.let(text, whole | taken, [("take", catch, 1, io)])
        gone = {key(at(1, 0), LIT): [("leave", LIT), (odd, LIT)], key(catch, LIT): [("leave", LIT), (odd, LIT)]}
        self.let(text, whole | gone, [("by", catch, odd)])

    def test_kept_and_lost(self):
        text = "{leave; clean {leave; slip io} with {}}"
        clean, slip = at(1), at(1, 0, 1)
        inner = {key(at(1, 0)): [("leave", OFF), (slip, LIT)], key(at(1, 0, 0)): [("leave", OFF)]}
        behind = {key(at(1, 1)): [("done", OFF)], key(at(1, 1), LIT): [("done", LIT)]}
        self.let(text, inner | behind, [])
        whole = inner | behind | {key(clean): [("leave", OFF), (slip, LIT)]}
        self.let(text, whole, [("kept", clean, slip)])
        both = whole | {key(at(1, 1), LIT): [("done", LIT), ("stop", OFF)], key(clean): [("leave", OFF), (slip, LIT), ("stop", OFF)]}
        self.let(text, both, [("kept", clean, slip), ("lost", clean, slip)])
        # What cleans behind other ends of the 0 tells nothing of the slip.
        other = whole | {key(at(1, 1)): [("done", OFF), ("stop", OFF)], key(clean): [("leave", OFF), (slip, LIT), ("stop", OFF)]}
        self.let(text, other, [("kept", clean, slip)])

    def test_out(self):
        rooms = ("front: {leave; call back}", "back: {leave; slip io}")
        slip = ("back", 1)
        inner = {key(("back",), LIT): [("leave", LIT), (slip, OFF)], key(("back", 0), LIT): [("leave", LIT)]}
        self.let(rooms, inner, [])
        self.let(rooms, inner | {key(at(1), LIT): [("done", LIT), (slip, OFF)]}, [("out", at(1), slip)])

    def test_the_greatest(self):
        house = house_of("front: {catch slip disk of net pass of io call back; clean {} with {}}", "back: slip odd")
        disk, odd = at(0, 0), ("back",)
        catch, call, clean = at(0), at(0, 2), at(1)
        slips = [disk, odd]
        expected = {("slip", slip) for slip in slips} | {("end", slip) for slip in slips}
        expected |= {("pass", at(0, 1), slip) for slip in slips} | {("out", call, slip) for slip in slips}
        expected |= {(word, clean, slip) for slip in slips for word in ("kept", "lost")}
        # By whatever table: a slip is taken by the first taker that fits, and by no other one.
        expected |= {("take", catch, 1, disk), ("by", catch, odd)}
        self.assertEqual(let_by(house, greatest(house)), expected)

    def test_what_the_least_lets_each_closed_one_lets(self):
        chance = random.Random(50)
        for step in range(30):
            house = good_house(chance, 14)
            self.assertLessEqual(let_by(house, table_of(house)), let_by(house, greatest(house)))


class WholeTest(unittest.TestCase):
    def test_what_happens_in_a_run_is_let(self):
        chance = random.Random(51)
        for step in range(150):
            house = good_house(chance, 40)
            table = table_of(house)
            for turn in range(6):
                trail = run(house, [chance.randrange(6) for choice in range(chance.randint(0, 20))], 150)[0]
                for thing in trail:
                    if thing[0] != "say":
                        self.assertIs(lets(house, table, thing), True, (house, thing))

    def test_what_is_let_happens_in_some_run(self):
        chance = random.Random(52)
        words = set()
        for step in range(500):
            house = good_house(chance, 16)
            let = let_by(house, table_of(house))
            self.assertEqual(let, Seen(house, 60, 300).meets, house)
            words |= {meet[0] for meet in let}
        self.assertEqual(words, {"slip", "pass", "take", "by", "kept", "lost", "out", "end"})

    def test_a_house_without_slips(self):
        house = house_of("clean call front with {}")
        self.assertEqual(slips_of(house), [])
        self.assertEqual(let_by(house, table_of(house)), set())

    def test_it_tells_truths_and_changes_nothing(self):
        table = table_of(HOUSE)
        kept = copy.deepcopy(table)
        for meet in meets_of(HOUSE):
            self.assertIn(lets(HOUSE, table, meet), (True, False))
            self.assertIs(lets(HOUSE, table, meet).__class__, bool)
        self.assertEqual(table, kept)
        self.assertEqual(list(table), list(kept))


if __name__ == "__main__":
    unittest.main()
