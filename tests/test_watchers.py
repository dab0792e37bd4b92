"""Points 19, 20 and 4: watchers, runs that break them, and watched tables by which all runs keep them."""

import copy
import random
import unittest

from slipcatch.errors import TooFar
from slipcatch.prices import prices_of
from slipcatch.runs import run
from slipcatch.tables import is_closed, table_of
from slipcatch.watchers import breaks, is_watcher, keeps, watched, watched_prices
from tests.reference import Fewest
from tests.samples import BOTH, F, HOUSE, LIT, OFF, WARM, at, far_house, good_house, greatest, house_of, lively_house
from tests.samples import random_watcher, very_far_house

# The door is shut behind it where it was opened, and may be left open by a slip.
DOOR = (("shut", "ajar"), {("shut", "pull"): "ajar", ("ajar", "push"): "shut"}, ("shut",), ("shut", "ajar"))
SHUT, AJAR = (OFF, "shut"), (OFF, "ajar")
# All states are allowed, and none is left.
EASY = (("one",), {}, ("one",), ("one",))


class IsWatcherTest(unittest.TestCase):
    def yes(self, *things):
        for thing in things:
            self.assertIs(is_watcher(thing), True, thing)

    def no(self, *things):
        for thing in things:
            self.assertIs(is_watcher(thing), False, thing)

    def test_watchers(self):
        self.yes(DOOR, EASY, (("one",), {}, (), ()), (("a", "b", "c", "d"), {}, ("d", "a"), ("a", "b", "c", "d")))
        self.yes((("abcdefgh",), {("abcdefgh", "abcdefgh"): "abcdefgh"}, (), ()))
        # A word that is no state, and a state that is the word, too.
        self.yes((("a",), {("a", "zz"): "a", ("a", "a"): "a"}, (), ()))

    def test_no_tuples_of_four(self):
        states, moves, done, slip = DOOR
        self.no(None, 0, True, "", "door", [], {}, (), (states,), (states, moves, done), list(DOOR), DOOR + ((),))
        self.no((DOOR,), [DOOR], {"states": states})
        for number in range(4):
            for other in (None, 1, True, "shut", 0):
                self.no(DOOR[:number] + (other,) + DOOR[number + 1:])

    def test_states(self):
        def with_states(states):
            return (states, {}, (), ())

        self.no(with_states(()), with_states(("a", "b", "c", "d", "e")), with_states(("a", "a")))
        self.no(with_states(("a", "b", "c", "a")), with_states(["a"]), with_states({"a": "a"}), with_states("a"))
        self.no(with_states(("",)), with_states(("A",)), with_states(("a b",)), with_states(("abcdefghi",)))
        self.no(with_states((1,)), with_states((True,)), with_states((None,)), with_states((("a",),)), with_states((["a"],)))
        self.no(with_states(("a1",)), with_states(("a", "b-")))
        self.yes(with_states(("a",)), with_states(("a", "b", "c", "d")))

    def test_moves(self):
        def with_moves(moves):
            return (("a", "b"), moves, (), ())

        self.yes(with_moves({}), with_moves({("a", "x"): "b", ("b", "x"): "b", ("a", "y"): "a"}))
        self.no(with_moves({("c", "x"): "a"}), with_moves({("a", "x"): "c"}), with_moves({("a", "x"): "x"}))
        self.no(with_moves({("a", ""): "b"}), with_moves({("a", "X"): "b"}), with_moves({("a", "abcdefghi"): "b"}))
        self.no(with_moves({("a", 1): "b"}), with_moves({("a", True): "b"}), with_moves({("a", None): "b"}))
        self.no(with_moves({("a", ("x",)): "b"}), with_moves({(1, "x"): "b"}), with_moves({(None, "x"): "b"}))
        self.no(with_moves({("a", "x"): 1}), with_moves({("a", "x"): None}), with_moves({("a", "x"): True}))
        self.no(with_moves({("a", "x"): ("b",)}), with_moves({("a", "x"): ["b"]}), with_moves({("a", "x"): {}}))
        self.no(with_moves({("a",): "b"}), with_moves({("a", "x", "y"): "b"}), with_moves({"ax": "b"}), with_moves({"a": "b"}))
        self.no(with_moves({(): "b"}), with_moves({1: "b"}), with_moves({None: "b"}))
        self.no(with_moves((("a", "x"), "b")), with_moves([(("a", "x"), "b")]), with_moves(()), with_moves([]))
        # One bad move among good ones.
        self.no(with_moves({("a", "x"): "b", ("b", "x"): "a", ("b", "y"): "c"}))

    def test_done_and_slip(self):
        for make in (lambda part: (("a", "b"), {}, part, ()), lambda part: (("a", "b"), {}, (), part)):
            self.yes(make(()), make(("a",)), make(("b", "a")))
            self.no(make(["a"]), make([]), make({}), make({"a": True}), make("a"), make("ab"), make(None))
            self.no(make(("a", "a")), make(("a", "b", "a")), make(("c",)), make(("a", "c")), make(("",)))
            self.no(make((1,)), make((True,)), make((None,)), make((["a"],)), make((("a",),)))

    def test_things_deep_within_one_another(self):
        deep = "a"
        for step in range(98):
            deep = (deep,)
        self.no(deep, (deep, {}, (), ()), (("a",), {("a", deep): "a"}, (), ()), (("a",), {deep: "a"}, (), ()))
        self.no((("a",), {}, deep, ()), (("a",), {}, (), (deep,)))
        long = tuple("a" for step in range(9000))
        self.no((long, {}, (), ()), (("a",), {}, long, ()))


class WatchedTest(unittest.TestCase):
    def look(self, house, watcher, told):
        self.assertIsInstance(told, tuple)
        if told[0] == "keeps":
            self.assertEqual(len(told), 2)
            self.assertIs(keeps(house, watcher, told[1]), True)
        else:
            word, many, choices = told
            self.assertEqual(word, "breaks")
            self.assertIs(type(many), int)
            self.assertIsInstance(choices, list)
            self.assertIs(breaks(house, watcher, choices), True)
            self.assertIn(run(house, choices, many)[1][0], ("done", "slip"))
            self.assertEqual(run(house, choices, many - 1)[1], ("long",))

    def kept(self, rooms, watcher):
        house = house_of(rooms)
        told = watched(house, watcher)
        self.assertEqual(told[0], "keeps", rooms)
        self.look(house, watcher, told)

    def broken(self, rooms, watcher, many):
        house = house_of(rooms)
        told = watched(house, watcher)
        self.assertEqual(told[:2], ("breaks", many), rooms)
        self.look(house, watcher, told)
        fewest = Fewest(house, many - 1, 5000, watcher)
        self.assertTrue(fewest.all)
        for end, state in fewest.ends:
            allowed = {"done": watcher[2], "slip": watcher[3]}.get(end[0], watcher[0])
            self.assertIn(state, allowed)

    def test_done(self):
        self.kept("{say pull; say push}", DOOR)
        self.broken("{say pull; say hi}", DOOR, 3)
        self.broken("{say pull; pick {{say a; say push} | say push | {say b; say c; say d}}}", DOOR, 7)
        self.kept("{}", DOOR)
        self.broken("{}", (("one",), {}, (), ("one",)), 1)

    def test_leave_counts_as_done(self):
        self.broken("{say pull; pick {say push | {say hi; leave}}}", DOOR, 6)
        self.kept("{say pull; say push; leave; say pull}", DOOR)
        self.broken("leave", (("one",), {}, (), ("one",)), 1)

    def test_slip(self):
        hard = DOOR[:3] + (("shut",),)
        self.kept("{say pull; slip io}", DOOR)
        self.broken("{say pull; slip io}", hard, 3)
        self.kept("{say pull; clean slip io with say push}", hard)
        self.kept("{say pull; catch slip io of any say push}", hard)
        self.broken("{say pull; clean pick {say push | slip io} with say push}", (("shut", "ajar"), DOOR[1], ("shut",), ("ajar",)), 6)

    def test_a_word_that_moves_nothing(self):
        self.kept("{say push; say hi; say pull; say pull}", DOOR[:2] + (("ajar",), ()))
        self.kept("{say push; say push; say hi}", DOOR)

    def test_what_is_said_in_rooms_and_rounds(self):
        self.kept(("front: again {call back; say push}", "back: {say pull; pick {leave | say hi}}"), DOOR)
        self.broken(("front: again {call back; pick {stop | say push}}", "back: say pull"), DOOR, 6)
        counting = (("zero", "one", "two"), {("zero", "up"): "one", ("one", "up"): "two", ("two", "up"): "zero"}, ("zero", "one"), ())
        self.broken("again say up", counting, 3)
        self.kept("{again {say up; say up; say up}}", counting)

    def test_states_and_marks_together(self):
        # The mark knows whether the door is ajar.
        self.kept("{again (when lit {say push; off lit} else {say pull; on lit}); when lit say push else {}}", DOOR)
        self.broken("{again (when lit {say push; off lit} else {say pull; on lit}); when warm say push else {}}", DOOR, 8)

    def test_what_never_ends_breaks_nothing(self):
        self.kept("front: {say pull; call front}", DOOR)

    def test_the_least_table_is_told(self):
        house = house_of("{say pull; slip io}")
        told = watched(house, DOOR)
        self.assertTrue(keeps(house, DOOR, told[1]))
        self.assertEqual(told[1], {
            (F, SHUT, None): [(at(1), AJAR)], (at(0), SHUT, None): [("done", AJAR)], (at(1), AJAR, None): [(at(1), AJAR)]})

    def test_far(self):
        never = (("one",), {}, (), ())
        told = watched(far_house(10), never)
        self.assertEqual(told, ("breaks", 3000, []))
        with self.assertRaises(TooFar) as refusal:
            watched(far_house(11), never)
        self.assertEqual(refusal.exception.many, 3001)
        self.assertTrue(breaks(far_house(11), never, []))
        with self.assertRaises(TooFar) as refusal:
            watched(very_far_house(), never)
        self.assertEqual(refusal.exception.many, run(very_far_house(), [], 100000)[2])
        self.assertFalse(breaks(very_far_house(), never, []))
        self.assertEqual(watched(very_far_house(), EASY)[0], "keeps")

    def test_houses_and_watchers_at_random(self):
        chance = random.Random(201)
        words = []
        for step in range(80):
            house = lively_house(chance, chance.choice([10, 16, 24]))
            watcher = random_watcher(chance)
            self.assertTrue(is_watcher(watcher))
            most = 18
            fewest = Fewest(house, most, 1500, watcher)
            if not fewest.all:
                continue
            told = watched(house, watcher)
            self.look(house, watcher, told)
            broken = [many for (end, state), many in fewest.ends.items()
                      if end == ("done",) and state not in watcher[2] or end[0] == "slip" and state not in watcher[3]]
            many = told[1] if told[0] == "breaks" else most + 1
            self.assertEqual(min(broken, default=None), many if many <= most else None)
            words.append(told[0])
        self.assertGreater(words.count("keeps"), 10)
        self.assertGreater(words.count("breaks"), 10)

    def test_what_is_told_is_the_askers_own_and_what_is_handed_in_stays(self):
        house, watcher = copy.deepcopy((HOUSE, (("one", "two"), {("one", "hi"): "two"}, ("one", "two"), ())))
        first = watched(house, watcher)
        kept = copy.deepcopy(first)
        self.assertEqual(first[0], "keeps")
        for ways in first[1].values():
            ways.clear()
        first[1].clear()
        self.assertEqual(watched(house, watcher), kept)
        self.assertEqual((house, watcher), (HOUSE, (("one", "two"), {("one", "hi"): "two"}, ("one", "two"), ())))
        first = watched(house_of("pick {{} | slip io}"), (("one",), {}, ("one",), ()))
        first[2].append(7)
        self.assertEqual(watched(house_of("pick {{} | slip io}"), (("one",), {}, ("one",), ()))[2], first[2][:-1])

    def test_moves_that_are_changed_afterwards_change_nothing(self):
        moves = {("shut", "pull"): "ajar"}
        watcher = (("shut", "ajar"), moves, ("ajar",), ())
        house = house_of("say pull")
        told = watched(house, watcher)
        kept = copy.deepcopy(told)
        moves.clear()
        self.assertEqual(told, kept)
        self.assertEqual(watched(house, watcher)[0], "breaks")


class KeepsTest(unittest.TestCase):
    def keeps(self, house, table, watcher=DOOR):
        self.assertIs(keeps(house, watcher, table), True, table)

    def fails(self, house, table, watcher=DOOR):
        self.assertIs(keeps(house, watcher, table), False, table)

    def test_without_any_one_thing(self):
        chance = random.Random(202)
        for step in range(15):
            house, watcher = lively_house(chance, 16), random_watcher(chance)
            # All runs keep it, for all states are allowed.
            watcher = watcher[:2] + (watcher[0], watcher[0])
            table = watched(house, watcher)[1]
            self.keeps(house, table, watcher)
            for lost in table:
                self.fails(house, {each: ways for each, ways in table.items() if each != lost}, watcher)
                for way in table[lost]:
                    self.fails(house, table | {lost: [other for other in table[lost] if other != way]}, watcher)

    def test_ends_of_the_front_key_that_break(self):
        house = house_of("{say pull; say push}")
        least = watched(house, DOOR)[1]
        front = (F, SHUT, None)
        self.keeps(house, least)
        for end in ("done", "leave"):
            self.fails(house, least | {front: least[front] + [(end, AJAR)]})
        # What stops breaks nothing, whatever the state.
        self.keeps(house, least | {front: least[front] + [("stop", AJAR)]})
        self.keeps(house, least | {front: least[front] + [("stop", AJAR), ("stop", SHUT)]}, DOOR[:3] + ((),))
        self.keeps(house, least | {front: least[front] + [("stop", SHUT), ("leave", SHUT)]})
        # By other marks, too.
        self.fails(house, least | {front: least[front] + [("done", (LIT, "ajar"))]})
        self.keeps(house, least | {front: least[front] + [("done", (LIT, "shut"))]})

    def test_slips_of_the_front_key_that_break(self):
        house = house_of("catch slip io of any {}")
        least = watched(house, DOOR)[1]
        front = (F, SHUT, None)
        hard = DOOR[:3] + (("ajar",),)
        self.keeps(house, least, hard)
        self.keeps(house, least | {front: least[front] + [(at(0), AJAR)]}, hard)
        self.fails(house, least | {front: least[front] + [(at(0), SHUT)]}, hard)

    def test_only_the_front_key_of_the_first_state_is_asked(self):
        house = house_of("{}")
        least = watched(house, DOOR)[1]
        self.keeps(house, least)
        self.keeps(house, least | {(F, AJAR, None): [("done", AJAR)]})
        self.keeps(house, least | {(F, (LIT, "shut"), None): [("done", (LIT, "shut")), ("done", AJAR)]})
        self.fails(house, {(F, AJAR, None): [("done", AJAR)]})

    def test_greater_ones(self):
        house = house_of("front: say pull", "back: {say push; on lit}")
        watcher = DOOR[:2] + (("shut", "ajar"), ())
        least = watched(house, watcher)[1]
        more = {
            (("back",), AJAR, None): [("done", (LIT, "shut"))], (("back", 0), AJAR, None): [("done", SHUT)],
            (("back", 1), SHUT, None): [("done", (LIT, "shut"))],
        }
        self.keeps(house, least | more, watcher)
        for lost in list(more)[1:]:
            self.fails(house, {each: ways for each, ways in (least | more).items() if each != lost}, watcher)
        # A say moves the state, also at keys that no run has.
        self.fails(house, least | more | {(("back", 0), AJAR, None): [("done", AJAR)]}, watcher)
        self.fails(house, least | {(("back", 0), (BOTH, "shut"), None): [("done", (BOTH, "ajar"))]}, watcher)
        self.keeps(house, least | {(("back", 0), (BOTH, "shut"), None): [("done", (BOTH, "shut"))]}, watcher)

    def test_the_greatest_of_some_houses(self):
        chance = random.Random(203)
        watcher = (("one", "two"), {("one", "a"): "two"}, ("one", "two"), ("one", "two"))
        scenes = [(marks, state) for marks in (OFF, LIT, WARM, BOTH) for state in watcher[0]]
        for step in range(8):
            house = good_house(chance, 8)
            table = greatest(house, scenes)
            self.keeps(house, table, watcher)
            self.fails(house, table, watcher[:2] + (("one",), ("one", "two")))

    def test_things_that_are_no_watched_tables(self):
        house = house_of("say pull")
        watcher = DOOR[:2] + (("shut", "ajar"), ())
        front, way = (F, SHUT, None), ("done", AJAR)
        self.keeps(house, {front: [way]}, watcher)
        self.fails(house, {}, watcher)
        self.fails(house, {front: []}, watcher)
        self.fails(house, {front: [("done", SHUT)]}, watcher)
        self.fails(house, {front: [way, way]}, watcher)
        self.fails(house, {front: (way,)}, watcher)
        self.fails(house, {front: [way, ("done", OFF)]}, watcher)
        self.fails(house, {front: [way, ("done", (OFF, "wide"))]}, watcher)
        self.fails(house, {front: [way, ("done", ("shut", OFF))]}, watcher)
        self.fails(house, {front: [way, ("done", (("warm", "lit"), "shut"))]}, watcher)
        self.fails(house, {front: [way, ("gone", SHUT)]}, watcher)
        self.fails(house, {front: [way, (F, SHUT)]}, watcher)
        self.fails(house, {front: [way, ("done", (OFF, "shut", "shut"))]}, watcher)
        self.fails(house, {front: [way, ("done", (OFF,))]}, watcher)
        for other in ((F, OFF, None), (F, (OFF, "wide"), None), (F, ("shut", OFF), None), (at(0), SHUT, None), (F, SHUT, F),
                      (F, (("none",), "shut"), None), (F, SHUT), (F, SHUT, None, None), (("none",), SHUT, None), ("front", SHUT, None)):
            self.fails(house, {front: [way], other: [way]}, watcher)
        # A table without states is another thing.
        self.assertTrue(is_closed(house, table_of(house)))
        self.fails(house, table_of(house), watcher)
        self.assertFalse(is_closed(house, {front: [way]}))

    def test_what_is_handed_in_stays(self):
        house = house_of("{say pull; say push}")
        table = watched(house, DOOR)[1]
        kept = copy.deepcopy(table)
        self.keeps(house, table)
        self.assertEqual(table, kept)


class BreaksTest(unittest.TestCase):
    house = house_of("{say pull; pick {say push | say hi | slip io}}")

    def test_choices_that_break_and_that_do_not(self):
        hard = DOOR[:3] + (("shut",),)
        self.assertIs(breaks(self.house, DOOR, [0]), False)
        self.assertIs(breaks(self.house, DOOR, [1]), True)
        self.assertIs(breaks(self.house, DOOR, [2]), False)
        self.assertIs(breaks(self.house, hard, [2]), True)
        self.assertIs(breaks(self.house, DOOR, [10 ** 29 + 3]), breaks(self.house, DOOR, [(10 ** 29 + 3) % 3]))
        self.assertIs(breaks(self.house, DOOR, [1, 0, 0]), True)

    def test_a_run_that_waits(self):
        self.assertIs(breaks(self.house, DOOR, []), False)
        self.assertIs(breaks(self.house, DOOR[:2] + ((), ()), []), False)
        self.assertIs(breaks(house_of("{say pull; again {}}"), DOOR, [1]), False)
        self.assertIs(breaks(house_of("{say pull; again {}}"), DOOR, [1, 0]), True)

    def test_a_run_that_is_long(self):
        never = (("one",), {}, (), ())
        self.assertIs(breaks(house_of("front: {say pull; call front}"), never, []), False)
        rooms = "back: {say a; say b; say c; say d}"
        just = house_of("front: {{{}; {}; {}; {}}; again call back}", rooms)
        self.assertEqual(run(just, [1] * 832 + [0], 6000)[1:], (("done",), 4999))
        self.assertIs(breaks(just, never, [1] * 832 + [0]), True)
        just = house_of("front: {{{}; {}; {}; {}}; {}; again call back}", rooms)
        self.assertEqual(run(just, [1] * 832 + [0], 6000)[2], 5000)
        self.assertIs(breaks(just, never, [1] * 832 + [0]), True)
        longer = house_of("front: {{{}; {}; {}; {}}; {}; {}; again call back}", rooms)
        self.assertEqual(run(longer, [1] * 832 + [0], 6000)[2], 5001)
        self.assertIs(breaks(longer, never, [1] * 832 + [0]), False)

    def test_by_the_state_at_the_end(self):
        # It was ajar on the way.
        self.assertIs(breaks(house_of("{say pull; say push}"), DOOR, []), False)
        self.assertIs(breaks(house_of("{say pull; say push; say pull}"), DOOR, []), True)
        self.assertIs(breaks(house_of("{say pull; leave}"), DOOR, []), True)


class WatchedPricesTest(unittest.TestCase):
    def test_by_hand(self):
        house = house_of("again pick {say pull | say push | slip io}")
        keys, ways = watched_prices(house, DOOR)
        self.assertEqual(keys, {
            (F, SHUT, None): 0, (at(0), SHUT, None): 1, (at(0, 0), SHUT, None): 2, (at(0, 1), SHUT, None): 2,
            (at(0, 2), SHUT, None): 2, (at(0), AJAR, None): 3, (at(0, 0), AJAR, None): 4, (at(0, 1), AJAR, None): 4,
            (at(0, 2), AJAR, None): 4})
        front = (F, SHUT, None)
        self.assertEqual({way: price for (begun, way), price in ways.items() if begun == front}, {
            ("done", SHUT): 1, ("done", AJAR): 3, (at(0, 2), SHUT): 3, (at(0, 2), AJAR): 5})
        self.assertEqual({way: price for (begun, way), price in ways.items() if begun == (at(0), AJAR, None)}, {
            ("done", SHUT): 2, ("done", AJAR): 2, (at(0, 2), AJAR): 2})

    def test_keys_and_ways_are_those_of_the_table(self):
        told = watched(HOUSE, EASY)
        keys, ways = watched_prices(HOUSE, EASY)
        self.assertEqual(set(keys), set(told[1]))
        self.assertEqual(set(ways), {(begun, way) for begun, listed in told[1].items() for way in listed})

    def test_a_watcher_with_one_state_changes_no_price(self):
        chance = random.Random(204)
        for step in range(20):
            house = lively_house(chance, 30)
            keys, ways = watched_prices(house, EASY)
            told = ({(place, scene[0], slip): price for (place, scene, slip), price in keys.items()},
                    {((begun[0], begun[1][0], begun[2]), (end, scene[0])): price for (begun, (end, scene)), price in ways.items()})
            self.assertEqual(told, prices_of(house))

    def test_all_runs_of_at_most_so_many_deeds_have_just_these_prices(self):
        chance = random.Random(205)
        tried = 0
        for step in range(40):
            house, watcher = lively_house(chance, 16), random_watcher(chance)
            fewest = Fewest(house, 16, 1500, watcher)
            if not fewest.all:
                continue
            tried += 1
            keys, ways = watched_prices(house, watcher)
            self.assertEqual(fewest.keys, {begun: price for begun, price in keys.items() if price < 16})
            for ended, price in ways.items():
                if keys[ended[0]] + price <= 16:
                    self.assertEqual(fewest.ways.get(ended), price)
            self.assertTrue(set(fewest.ways) <= set(ways))
        self.assertGreater(tried, 20)

    def test_what_is_told_is_the_askers_own(self):
        house = house_of("{say pull; slip io}")
        first = watched_prices(house, DOOR)
        kept = copy.deepcopy(first)
        first[0].clear()
        first[1].clear()
        self.assertEqual(watched_prices(house, DOOR), kept)


if __name__ == "__main__":
    unittest.main()
