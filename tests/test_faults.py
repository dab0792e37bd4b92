"""Point 8: of anything why it is no house, by the first word that is due."""

import copy
import random
import unittest

from slipcatch.errors import NoHouse
from slipcatch.houses import need_house, why_no_house
from tests.samples import EMPTY, HOUSE, KINDS, MARKS, SAY, count_deeds, nested, one_room, random_house, row_of

ROOMS = (("front", SAY),)
SLIP = ("slip", "odd")
NO_TUPLES = (None, True, False, 0, 1, -3, 10 ** 30, "", "shape", [], ["row"], {}, {"row": ()}, {0: {}})
NO_WORDS = (None, True, 0, 7, "abcdefghi", "A", "aB", "a b", "a1", "a_", "a\n", "\u00e9", "\u0131", ("a",), ["a"], {"a": 1})
FAULTS = {
    "shape": ("row", SAY, SAY, SAY, SAY, SAY),
    "names": ("slip", "nokind"),
    "pass": ("pass",),
    "stop": ("stop",),
    "great": ("clean", SAY, ("clean", SAY, SAY)),
}
ORDER = ("shape", "names", "pass", "stop", "great")


class FaultTest(unittest.TestCase):
    def fault(self, thing, fault):
        self.assertEqual(why_no_house(thing), fault, thing)

    def deed_fault(self, deed, fault):
        self.fault(one_room(deed), fault)
        # The same within others, and in a room that is not the front one.
        self.fault(one_room(("row", SAY, ("pick", SAY, deed))), fault)
        self.fault(one_room(("when", "lit", SAY, deed)), fault)
        self.fault((KINDS, MARKS, (("front", SAY), ("back", ("clean", deed, SAY)))), fault)


class OrdinaryTest(FaultTest):
    def test_houses(self):
        for house in (HOUSE, one_room(SAY), one_room(EMPTY), one_room(SAY, (("a", ""),), ())):
            self.fault(house, None)

    def test_each_sort_of_deed(self):
        for deed in (
            SAY, SLIP, ("leave",), ("on", "lit"), ("off", "warm"), ("call", "front"),
            ("again", ("stop",)), ("when", "lit", SAY, SAY), ("clean", SAY, SAY),
            ("catch", SAY, ("odd", ("pass",))),
        ):
            self.fault(one_room(deed), None)

    def test_one_word_may_name_a_kind_and_a_mark_and_a_room(self):
        self.fault(((("a", ""),), ("a",), (("a", ("row", ("slip", "a"), ("on", "a"), ("call", "a"))),)), None)

    def test_words_of_the_language_are_words(self):
        self.fault(((("row", ""), ("else", "row")), ("of", "with"), (("kinds", ("when", "of", SAY, SAY)),)), None)

    def test_a_said_word_is_no_deed(self):
        for word in ("pass", "stop", "slip", "clean", "row", "catch"):
            self.fault(one_room(("say", word)), None)
        self.fault(one_room(row_of([("say", "slip")] * 9)), None)
        self.fault(one_room(("clean", SAY, ("say", "clean"))), None)

    def test_two_takers_may_have_one_kind(self):
        self.fault(one_room(("catch", SAY, ("io", SAY), ("io", SAY))), None)

    def test_asked_again_it_tells_the_same_and_nothing_is_changed(self):
        things = [HOUSE, one_room(FAULTS["great"]), [KINDS, [MARKS], {"a": [1]}], (KINDS, MARKS, [ROOMS])]
        kept = copy.deepcopy(things)
        first = [why_no_house(thing) for thing in things]
        self.assertEqual([why_no_house(thing) for thing in things], first)
        self.assertEqual(first, [None, "great", "shape", "shape"])
        self.assertEqual(things, kept)


class ShapeTest(FaultTest):
    def test_the_whole(self):
        for thing in NO_TUPLES:
            self.fault(thing, "shape")
        for thing in ((), (KINDS,), (KINDS, MARKS), (KINDS, MARKS, ROOMS, ()), [KINDS, MARKS, ROOMS]):
            self.fault(thing, "shape")

    def test_parts_that_are_no_tuples(self):
        for thing in NO_TUPLES:
            self.fault((thing, MARKS, ROOMS), "shape")
            self.fault((KINDS, thing, ROOMS), "shape")
            self.fault((KINDS, MARKS, thing), "shape")
            self.fault(((thing,), MARKS, ROOMS), "shape")
            self.fault((KINDS, MARKS, (thing,)), "shape")
            self.fault((KINDS, MARKS, (("front", thing),)), "shape")

    def test_lists_are_no_tuples(self):
        self.fault((list(KINDS), MARKS, ROOMS), "shape")
        self.fault((KINDS, list(MARKS), ROOMS), "shape")
        self.fault((KINDS, MARKS, list(ROOMS)), "shape")
        self.fault(((["a", ""],), MARKS, ROOMS), "shape")
        self.fault((KINDS, MARKS, (["front", SAY],)), "shape")
        self.fault((KINDS, MARKS, (("front", list(SAY)),)), "shape")

    def test_kinds_and_rooms_are_pairs(self):
        for thing in ((), ("a",), ("a", "", "")):
            self.fault(((thing,), MARKS, ROOMS), "shape")
        for thing in ((), ("a",), ("a", SAY, SAY)):
            self.fault((KINDS, MARKS, (thing,)), "shape")

    def test_how_many_kinds(self):
        for many, fault in ((0, "shape"), (1, None), (8, None), (9, "shape")):
            self.fault((tuple((letter, "") for letter in "abcdefghi"[:many]), MARKS, ROOMS), fault)

    def test_how_many_marks(self):
        for many, fault in ((0, None), (1, None), (2, None), (3, "shape")):
            self.fault((KINDS, tuple("abc"[:many]), ROOMS), fault)

    def test_how_many_rooms(self):
        for many, fault in ((0, "shape"), (1, None), (5, None), (6, "shape")):
            self.fault((KINDS, MARKS, tuple((letter, SAY) for letter in "abcdef"[:many])), fault)

    def test_words(self):
        for word, fault in (("a", None), ("z", None), ("abcdefgh", None), ("", "shape")):
            self.fault((((word, ""),), MARKS, ROOMS), fault)
            self.fault((KINDS, (word,), ROOMS), fault)
            self.fault((KINDS, MARKS, ((word, SAY),)), fault)
            self.fault(one_room(("say", word)), fault)

    def test_no_words(self):
        for thing in NO_WORDS:
            self.fault((((thing, ""),), MARKS, ROOMS), "shape")
            self.fault((KINDS + (("new", thing),), MARKS, ROOMS), "shape")
            self.fault((KINDS, (thing,), ROOMS), "shape")
            self.fault((KINDS, MARKS, ((thing, SAY),)), "shape")
            for deed in (
                ("say", thing), ("slip", thing), ("on", thing), ("off", thing), ("call", thing),
                ("when", thing, SAY, SAY), ("catch", SAY, (thing, SAY)), (thing,), (thing, SAY),
            ):
                self.fault(one_room(deed), "shape")

    def test_how_many_deeds_within_one(self):
        for sort, least, most in (("row", 0, 4), ("pick", 2, 3), ("again", 1, 1), ("clean", 2, 2)):
            for many in range(7):
                self.fault(one_room((sort,) + (SAY,) * many), None if least <= many <= most else "shape")
        for many in range(6):
            self.fault(one_room(("when", "lit") + (SAY,) * many), None if many == 2 else "shape")
            self.fault(one_room(("catch", SAY) + (("odd", SAY),) * many), None if 1 <= many <= 3 else "shape")

    def test_deeds_without_any_within_them(self):
        for sort, word in (("say", "a"), ("slip", "odd"), ("on", "lit"), ("off", "lit"), ("call", "front")):
            self.fault(one_room((sort, word)), None)
            for deed in ((sort,), (sort, word, word), (sort, word, SAY), (sort, SAY), (sort, SAY, word)):
                self.deed_fault(deed, "shape")
        for sort in ("pass", "leave", "stop"):
            self.fault(one_room(("again", ("catch", SAY, ("odd", (sort,))))), None)
            for deed in ((sort, "odd"), (sort, SAY), (sort, ())):
                self.deed_fault(("again", ("catch", SAY, ("odd", deed))), "shape")

    def test_deeds_with_too_little_or_too_much(self):
        for deed in (
            (), ("say",), ("say", "a", "b"), ("say", SAY), ("slip",), ("slip", "odd", "odd"), ("pass", "a"),
            ("leave", "a"), ("stop", SAY), ("on",), ("off", "lit", "warm"), ("call",), ("call", "front", SAY),
            ("catch",), ("when", SAY, SAY), ("when", "lit", "lit", SAY, SAY), ("nothing",), ("Say", "a"), ("", "a"),
            ("say w",), (("say", "a"),), (["say"], "a"), ({}, "a"), (None,), (0, SAY),
        ):
            self.deed_fault(deed, "shape")

    def test_deeds_within_that_are_none(self):
        for thing in NO_TUPLES + ((),):
            for deed in (
                ("row", thing), ("row", SAY, thing), ("pick", thing, SAY), ("pick", SAY, SAY, thing), ("again", thing),
                ("when", "lit", thing, SAY), ("when", "lit", SAY, thing), ("clean", thing, SAY), ("clean", SAY, thing),
                ("catch", thing, ("odd", SAY)), ("catch", SAY, ("odd", thing)), ("catch", SAY, thing),
                ("catch", SAY, ("odd", SAY), thing),
            ):
                self.fault(one_room(deed), "shape")

    def test_takers_are_pairs(self):
        for taker in (("odd",), ("odd", SAY, SAY), SAY, (SAY, "odd"), ["odd", SAY], ("", SAY)):
            self.fault(one_room(("catch", SAY, taker)), "shape")

    def test_a_hundred_within_one_another(self):
        self.fault(one_room(nested(("say",), 95)), "shape")
        self.fault(one_room(nested(SAY, 95)), "great")
        self.fault(one_room(nested([], 95)), "shape")
        thing = []
        for step in range(99):
            thing = [thing] if step % 2 else {"a": thing}
        self.fault(thing, "shape")

    def test_ten_thousand_in_all(self):
        self.fault((1,) * 9999, "shape")
        self.fault(one_room(row_of([SAY] * 3000)), "great")
        self.fault(one_room(row_of([SAY] * 3000 + [("say", 1)])), "shape")


class NamesTest(FaultTest):
    def test_two_of_one_name(self):
        self.fault(((("a", ""), ("a", "")), MARKS, ROOMS), "names")
        self.fault(((("a", ""), ("b", ""), ("a", "b")), MARKS, ROOMS), "names")
        self.fault(((("a", ""), ("a", "a")), MARKS, ROOMS), "names")
        self.fault((KINDS, ("lit", "lit"), ROOMS), "names")
        self.fault((KINDS, MARKS, (("front", SAY), ("front", SAY))), "names")
        self.fault((KINDS, MARKS, (("front", SAY), ("back", SAY), ("front", EMPTY))), "names")

    def test_overs(self):
        self.fault(((("a", ""), ("b", "a"), ("c", "a")), MARKS, ROOMS), None)
        self.fault(((("a", "a"),), MARKS, ROOMS), "names")
        self.fault(((("a", "b"), ("b", "")), MARKS, ROOMS), "names")
        self.fault(((("a", ""), ("b", "c")), MARKS, ROOMS), "names")
        self.fault(((("a", ""), ("b", "lit")), MARKS, ROOMS), "names")

    def test_names_that_there_are_not(self):
        for deed in (
            ("slip", "nokind"), ("slip", "lit"), ("slip", "front"), ("on", "nomark"), ("off", "nomark"),
            ("on", "odd"), ("off", "front"), ("when", "nomark", SAY, SAY), ("when", "odd", SAY, SAY),
            ("call", "noroom"), ("call", "odd"), ("call", "lit"), ("catch", SAY, ("nokind", SAY)),
            ("catch", SAY, ("odd", SAY), ("io", SAY), ("lit", SAY)), ("catch", SAY, ("front", SAY)),
        ):
            self.deed_fault(deed, "names")

    def test_no_marks_at_all(self):
        for deed in (("on", "lit"), ("off", "lit"), ("when", "lit", SAY, SAY)):
            self.fault(one_room(deed, marks=()), "names")

    def test_a_said_word_names_nothing(self):
        self.fault(one_room(("say", "nokind")), None)

    def test_rooms_may_be_called_from_anywhere(self):
        self.fault((KINDS, MARKS, (("a", ("call", "b")), ("b", ("call", "a")))), None)


class PassTest(FaultTest):
    def test_outside_of_takers(self):
        for deed in (
            ("pass",), ("row", SAY, ("pass",)), ("catch", ("pass",), ("odd", SAY)), ("clean", SLIP, ("pass",)),
            ("catch", ("row", ("pass",)), ("odd", ("pass",))),
            ("row", ("catch", SAY, ("odd", ("pass",))), ("pass",)),
        ):
            self.deed_fault(deed, "pass")

    def test_a_takers_deed_and_within_one(self):
        for deed in (
            ("catch", SAY, ("odd", ("pass",))),
            ("catch", SAY, ("odd", SAY), ("io", SAY), ("any", ("pass",))),
            ("catch", SAY, ("odd", ("row", SAY, ("again", ("pass",))))),
            ("catch", SAY, ("odd", ("catch", ("pass",), ("io", SAY)))),
            ("catch", SAY, ("odd", ("clean", SAY, ("pass",)))),
        ):
            self.deed_fault(deed, None)

    def test_a_taker_of_another_room_is_none(self):
        house = (KINDS, MARKS, (("front", ("catch", SAY, ("odd", ("call", "back")))), ("back", ("pass",))))
        self.fault(house, "pass")


class StopTest(FaultTest):
    def test_outside_of_agains(self):
        for deed in (("stop",), ("row", ("again", SAY), ("stop",)), ("row", ("again", ("stop",)), ("stop",))):
            self.deed_fault(deed, "stop")

    def test_within_an_again(self):
        for deed in (
            ("again", ("stop",)), ("again", ("row", SAY, ("pick", SAY, ("stop",)))),
            ("again", ("clean", SAY, ("stop",))), ("again", ("catch", ("stop",), ("odd", ("stop",)))),
            ("again", ("again", ("when", "lit", ("stop",), ("stop",)))),
        ):
            self.deed_fault(deed, None)

    def test_an_again_of_another_room_is_none(self):
        house = (KINDS, MARKS, (("front", ("again", ("call", "back"))), ("back", ("stop",))))
        self.fault(house, "stop")


class GreatTest(FaultTest):
    def test_how_many_deeds(self):
        four = ("row", SAY, SAY, SAY, SAY)
        many = ("row", four, four, four, four)
        for deed, total, fault in (
            (("row", many, many, four), 48, None),
            (("row", many, many, four, SAY), 49, "great"),
        ):
            self.assertEqual(count_deeds(deed), total)
            self.fault(one_room(deed), fault)
        rooms = tuple((name, ("row", four, four)) for name in "abcd")
        self.fault((KINDS, MARKS, rooms + (("e", ("row", SAY, SAY, SAY)),)), None)
        self.fault((KINDS, MARKS, rooms + (("e", four),)), "great")

    def test_how_many_deeds_with_takers(self):
        catch = ("catch", SAY, ("odd", SAY), ("io", SAY), ("any", SAY))
        house = (KINDS, MARKS, tuple((room, ("row", catch, catch)) for room in "abcd"))
        self.assertEqual(sum(count_deeds(deed) for room, deed in house[2]), 44)
        self.fault((KINDS, MARKS, house[2] + (("e", ("row", SAY, SAY, SAY)),)), None)
        self.fault((KINDS, MARKS, house[2] + (("e", ("row", SAY, SAY, SAY, SAY)),)), "great")

    def test_how_many_slips(self):
        for many, fault in ((8, None), (9, "great")):
            self.fault(one_room(row_of([SLIP] * many)), fault)
            rooms = (("front", row_of([SLIP] * 4)), ("back", row_of([SLIP] * (many - 4))))
            self.fault((KINDS, MARKS, rooms), fault)

    def test_how_deep(self):
        for many, fault in ((12, None), (13, "great")):
            self.fault(one_room(nested(SAY, many)), fault)
            self.fault(one_room(nested(EMPTY, many, "again")), fault)
            self.fault((KINDS, MARKS, (("front", SAY), ("back", nested(SAY, many)))), fault)
            self.fault(one_room(("catch", SAY, ("odd", nested(("pass",), many - 1)))), fault)

    def test_a_clean_within_the_1_of_another_one(self):
        clean = ("clean", SAY, SAY)
        for inner in (
            clean, ("row", SAY, clean), ("catch", SAY, ("odd", clean)), ("again", ("pick", clean, SAY)),
            ("when", "lit", SAY, clean),
        ):
            self.fault(one_room(("clean", SAY, inner)), "great")
            self.fault(one_room(("clean", ("clean", SAY, inner), SAY)), "great")
            self.fault(one_room(("clean", SAY, ("row", inner))), "great")
            self.fault(one_room(("clean", inner, SAY)), None)
            self.fault(one_room(("clean", ("row", inner), EMPTY)), None)

    def test_a_called_clean_stands_not_within(self):
        house = (KINDS, MARKS, (("front", ("clean", SAY, ("call", "back"))), ("back", ("clean", SAY, SAY))))
        self.fault(house, None)


class FirstDueTest(FaultTest):
    def test_each_by_itself(self):
        for fault, deed in FAULTS.items():
            self.deed_fault(deed, fault)

    def test_two_at_once(self):
        for at, first in enumerate(ORDER):
            for second in ORDER[at + 1:]:
                for pair in ((FAULTS[first], FAULTS[second]), (FAULTS[second], FAULTS[first])):
                    self.fault(one_room(("row",) + pair), first)
                    self.fault((KINDS, MARKS, (("front", pair[0]), ("back", pair[1]))), first)

    def test_all_at_once(self):
        for at, first in enumerate(ORDER):
            deeds = [FAULTS[fault] for fault in reversed(ORDER[at:])]
            self.fault(one_room(row_of(deeds)), first)

    def test_bad_names_of_the_whole_and_a_bad_shape_in_a_room(self):
        self.fault(((("a", "b"),), ("lit", "lit"), (("front", ("pass", "a")),)), "shape")
        self.fault(((("a", "b"),), MARKS, (("front", ("pass",)),)), "names")


class NeedHouseTest(unittest.TestCase):
    def test_none_of_a_house(self):
        self.assertIsNone(need_house(HOUSE))

    def test_refused_with_the_fault(self):
        for fault, deed in FAULTS.items():
            with self.assertRaises(NoHouse) as caught:
                need_house(one_room(deed))
            self.assertEqual(caught.exception.fault, fault)
        for thing in NO_TUPLES:
            with self.assertRaises(NoHouse) as caught:
                need_house(thing)
            self.assertEqual(caught.exception.fault, "shape")

    def test_as_why_no_house_tells_at_random(self):
        chance = random.Random(8)
        seen = set()
        for step in range(500):
            house = random_house(chance, chance.randint(0, 3))
            fault = why_no_house(house)
            seen.add(fault)
            if fault is None:
                self.assertIsNone(need_house(house))
                continue
            with self.assertRaises(NoHouse) as caught:
                need_house(house)
            self.assertEqual(caught.exception.fault, fault)
        self.assertEqual(seen, {None, "names", "pass", "stop", "great"})


if __name__ == "__main__":
    unittest.main()
