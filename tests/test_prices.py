"""Point 16: the prices of keys and of ways, sort by sort and as a whole."""

import copy
import random
import unittest

from slipcatch.prices import prices_of
from slipcatch.runs import run
from slipcatch.tables import table_of
from tests.reference import Fewest
from tests.samples import BOTH, F, HOUSE, LIT, OFF, WARM, at, far_house, house_of, key, lively_house, very_far_house


def keys_and_ways(table):
    return {(begun, way) for begun, ways in table.items() for way in ways}


class PricesTest(unittest.TestCase):
    def prices(self, rooms, keys, ways):
        """Just these keys have prices; and each of these ways, the others are looked at elsewhere."""
        house = house_of(rooms)
        told = prices_of(house)
        self.assertEqual(told[0], keys, rooms)
        self.assertEqual({thing: told[1].get(thing) for thing in ways}, ways, rooms)
        self.assertEqual(set(told[1]), keys_and_ways(table_of(house)))


class SortsTest(PricesTest):
    def test_simple_deeds(self):
        for text, way in (("say a", ("done", OFF)), ("leave", ("leave", OFF)), ("slip io", (F, OFF)),
                          ("on lit", ("done", LIT)), ("off lit", ("done", OFF)), ("{}", ("done", OFF))):
            self.prices(text, {key(F): 0}, {(key(F), way): 1})

    def test_stop_and_pass(self):
        self.prices("again stop", {key(F): 0, key(at(0)): 1}, {(key(at(0)), ("stop", OFF)): 1, (key(F), ("done", OFF)): 1})
        slip = at(0)
        self.prices("catch slip io of io pass", {key(F): 0, key(slip): 1, key(at(1), OFF, slip): 2}, {
            (key(at(1), OFF, slip), (slip, OFF)): 1, (key(F), (slip, OFF)): 3})

    def test_row(self):
        self.prices("{say a; {say b; say c}; leave; say d}", {
            key(F): 0, key(at(0)): 1, key(at(1)): 2, key(at(1, 0)): 3, key(at(1, 1)): 4, key(at(2)): 5,
        }, {(key(at(1)), ("done", OFF)): 3, (key(F), ("leave", OFF)): 6})

    def test_row_goes_on_by_the_cheaper_way_to_each_state(self):
        # With lit by the short pick, without it by the long one.
        self.prices("{pick {on lit | {{}; {}}}; say a}", {
            key(F): 0, key(at(0)): 1, key(at(0, 0)): 2, key(at(0, 1)): 2, key(at(0, 1, 0)): 3, key(at(0, 1, 1)): 4,
            key(at(1), LIT): 3, key(at(1)): 5,
        }, {(key(F), ("done", LIT)): 4, (key(F), ("done", OFF)): 6, (key(at(0)), ("done", OFF)): 4})

    def test_pick(self):
        self.prices("pick {{say a; say b} | say c | {{}; leave}}", {
            key(F): 0, key(at(0)): 1, key(at(0, 0)): 2, key(at(0, 1)): 3, key(at(1)): 1, key(at(2)): 1, key(at(2, 0)): 2,
            key(at(2, 1)): 3,
        }, {(key(F), ("done", OFF)): 2, (key(F), ("leave", OFF)): 4})

    def test_again_that_goes_round_with_other_marks(self):
        # Each round puts one mark on: the slip stands behind two of them.
        self.prices("again (when lit (when warm slip io else on warm) else on lit)", {
            key(F): 0,
            key(at(0)): 1, key(at(0, 1)): 2,
            key(at(0), LIT): 3, key(at(0, 0), LIT): 4, key(at(0, 0, 1), LIT): 5,
            key(at(0), BOTH): 6, key(at(0, 0), BOTH): 7, key(at(0, 0, 0), BOTH): 8,
        }, {
            (key(F), ("done", OFF)): 1, (key(F), ("done", LIT)): 3, (key(F), ("done", BOTH)): 6,
            (key(F), (at(0, 0, 0), BOTH)): 9, (key(at(0), LIT), ("done", BOTH)): 3, (key(at(0), BOTH), (at(0, 0, 0), BOTH)): 3,
        })

    def test_again_that_is_stopped_or_left(self):
        self.prices("again {on lit; pick {stop | leave}}", {
            key(F): 0, key(at(0)): 1, key(at(0, 0)): 2, key(at(0, 1), LIT): 3, key(at(0, 1, 0), LIT): 4,
            key(at(0, 1, 1), LIT): 4,
        }, {(key(F), ("done", OFF)): 1, (key(F), ("done", LIT)): 5, (key(F), ("leave", LIT)): 5})

    def test_when(self):
        self.prices("{when lit say a else {on lit; {}}; when lit say b else slip io}", {
            key(F): 0, key(at(0)): 1, key(at(0, 1)): 2, key(at(0, 1, 0)): 3, key(at(0, 1, 1), LIT): 4, key(at(1), LIT): 5,
            key(at(1, 0), LIT): 6,
        }, {(key(F), ("done", LIT)): 7, (key(at(0)), ("done", LIT)): 4})

    def test_call(self):
        self.prices(("front: {call back; on lit; call back}", "back: {say a; leave}"), {
            key(F): 0, key(at(0)): 1, key(("back",)): 2, key(("back", 0)): 3, key(("back", 1)): 4, key(at(1)): 5,
            key(at(2), LIT): 6, key(("back",), LIT): 7, key(("back", 0), LIT): 8, key(("back", 1), LIT): 9,
        }, {
            (key(at(0)), ("done", OFF)): 4, (key(("back",)), ("leave", OFF)): 3, (key(at(2), LIT), ("done", LIT)): 4,
            (key(F), ("done", LIT)): 10,
        })

    def test_a_room_that_calls_itself(self):
        # It is called in itself with lit at once, and slips then.
        slip = at(0)
        self.prices("front: when lit slip io else {on lit; call front}", {
            key(F): 0, key(at(1)): 1, key(at(1, 0)): 2, key(at(1, 1), LIT): 3, key(F, LIT): 4, key(slip, LIT): 5,
        }, {(key(F), (slip, LIT)): 6, (key(F, LIT), (slip, LIT)): 2, (key(at(1, 1), LIT), (slip, LIT)): 3})

    def test_a_room_that_never_ends(self):
        self.prices("front: {say a; call front; say b}", {key(F): 0, key(at(0)): 1, key(at(1)): 2}, {
            (key(at(0)), ("done", OFF)): 1})

    def test_a_key_that_is_reached_in_two_rooms(self):
        # The short call is behind the long one.
        self.prices(("front: pick {{{}; {}; call back} | {{}; call back}}", "back: say a"), {
            key(F): 0, key(at(0)): 1, key(at(0, 0)): 2, key(at(0, 1)): 3, key(at(0, 2)): 4, key(at(1)): 1, key(at(1, 0)): 2,
            key(at(1, 1)): 3, key(("back",)): 4,
        }, {(key(F), ("done", OFF)): 5})

    def test_clean(self):
        slip, other = at(0, 1), at(1, 1)
        self.prices("clean pick {{} | slip io} with pick {{} | slip odd}", {
            key(F): 0, key(at(0)): 1, key(at(0, 0)): 2, key(slip): 2, key(at(1)): 3, key(at(1, 0)): 4, key(other): 4,
        }, {(key(F), ("done", OFF)): 5, (key(F), (slip, OFF)): 5, (key(F), (other, OFF)): 5})

    def test_clean_holds_the_end_while_it_goes_on(self):
        # Done is held behind two deeds, leave behind four; the 1 is begun by the same key behind both.
        self.prices("clean pick {{} | {{}; {}; leave}} with {say a; say b}", {
            key(F): 0, key(at(0)): 1, key(at(0, 0)): 2, key(at(0, 1)): 2, key(at(0, 1, 0)): 3, key(at(0, 1, 1)): 4,
            key(at(0, 1, 2)): 5, key(at(1)): 3, key(at(1, 0)): 4, key(at(1, 1)): 5,
        }, {(key(F), ("done", OFF)): 6, (key(F), ("leave", OFF)): 9})

    def test_catch(self):
        disk, odd, net = at(0, 0), at(0, 1, 1), at(0, 2)
        self.prices("catch pick {slip disk | {on warm; slip odd} | slip net} of disk {say a; say b} of odd pass", {
            key(F): 0, key(at(0)): 1, key(disk): 2, key(at(0, 1)): 2, key(at(0, 1, 0)): 3, key(odd, WARM): 4, key(net): 2,
            key(at(1), OFF, disk): 3, key(at(1, 0), OFF, disk): 4, key(at(1, 1), OFF, disk): 5, key(at(2), WARM, odd): 5,
        }, {
            (key(F), ("done", OFF)): 6, (key(F), (odd, WARM)): 6, (key(F), (net, OFF)): 3,
            (key(at(1), OFF, disk), ("done", OFF)): 3,
        })


class WholeTest(unittest.TestCase):
    def test_keys_and_ways_are_those_of_the_least_table(self):
        chance = random.Random(161)
        for house in [HOUSE] + [lively_house(chance, 40) for step in range(30)]:
            table = table_of(house)
            told = prices_of(house)
            self.assertEqual(set(told[0]), set(table))
            self.assertEqual(set(told[1]), keys_and_ways(table))

    def test_all_runs_of_at_most_so_many_deeds_have_just_these_prices(self):
        chance = random.Random(162)
        tried = 0
        for step in range(60):
            house = lively_house(chance, chance.choice([10, 16, 24]))
            most = 18
            fewest = Fewest(house, most, 2000)
            if not fewest.all:
                continue
            tried += 1
            keys, ways = prices_of(house)
            self.assertEqual(fewest.keys, {begun: price for begun, price in keys.items() if price < most}, house)
            for ended, price in ways.items():
                if keys[ended[0]] + price <= most:
                    self.assertEqual(fewest.ways.get(ended), price, (house, ended))
                else:
                    self.assertGreaterEqual(fewest.ways.get(ended, price), price, (house, ended))
        self.assertGreater(tried, 30)

    def test_prices_as_great_as_the_runs_are(self):
        for house in (far_house(0), very_far_house()):
            # No choice is asked for, so there is one run.
            many = run(house, [], 1000000)[2]
            keys, ways = prices_of(house)
            slip = house[2][0][0], len(house[2][0][1]) - 2
            self.assertEqual(ways[(key(F), (slip, OFF))], many)
            self.assertEqual(keys[key(slip)], many - 1)

    def test_what_is_told_is_the_askers_own(self):
        house = copy.deepcopy(HOUSE)
        first = prices_of(house)
        kept = copy.deepcopy(first)
        self.assertIsInstance(first, tuple)
        self.assertEqual(len(first), 2)
        first[0].clear()
        first[1].clear()
        self.assertEqual(prices_of(house), kept)
        self.assertEqual(house, HOUSE)
        for price in list(kept[0].values()) + list(kept[1].values()):
            self.assertIs(type(price), int)


if __name__ == "__main__":
    unittest.main()
