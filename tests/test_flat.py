"""Points 21 and 22: of anything whether it is a flat house."""

import unittest

from slipcatch.flat import is_flat, made_flat
from tests.samples import F, HOUSE, KINDS, MARKS, at

BACK = ("back",)
# Each sort of row, and catches of both sorts.
ROWS = (
    ("say", at(0), "hi"), ("on", "lit"), ("off", "warm"), ("call", at(3), "side"), ("when", "lit", 6), ("slip", at(1, 4), "disk"),
    ("pick", 0, 7), ("pick", 8, 0, 11), ("turn", 1), ("told", "pass", F, 0), ("told", "kept", F, 40), ("told", "lost", at(2), 3),
    ("jump", 12), ("throw", 40), BACK,
)
CATCHES = ((0, 5, at(0), (("disk", 3), ("io", 0), ("any", 14)), 7), (0, 14, F, 9, 0), (3, 3, F, (("odd", 1),), 40))
SIDE = ("side", (BACK,), ())
FLAT = (KINDS, MARKS, (("front", ROWS, CATCHES), SIDE))


def with_rows(*rows):
    return (KINDS, MARKS, (("front", rows, ()), SIDE))


def with_catch(*catch):
    return (KINDS, MARKS, (("front", (("slip", F, "io"), ("jump", 0), BACK), (catch,)), SIDE))


def with_part(thing, number, part):
    return thing[:number] + (part,) + thing[number + 1:]


class FlatTest(unittest.TestCase):
    def yes(self, *things):
        for thing in things:
            self.assertIs(is_flat(thing), True, thing)

    def no(self, *things):
        for thing in things:
            self.assertIs(is_flat(thing), False, thing)


class WholeTest(FlatTest):
    def test_flat_houses(self):
        self.yes(FLAT, with_rows(BACK), (KINDS, (), (SIDE,)), made_flat(HOUSE))

    def test_no_tuples_of_three(self):
        self.no(None, 0, True, "", "flat", [], {}, (), (KINDS,), FLAT[:2], FLAT + ((),), list(FLAT), (FLAT,), HOUSE)
        for number in range(3):
            for part in (None, 0, True, "front", {}, list(FLAT[number])):
                self.no(with_part(FLAT, number, part))

    def test_kinds(self):
        def with_kinds(kinds):
            return (kinds, MARKS, (SIDE,))

        self.yes(with_kinds((("a", ""),)), with_kinds((("a", ""), ("b", "a"), ("c", "b"))))
        self.no(with_kinds(()), with_kinds(tuple((name, "") for name in "abcdefghi")), with_kinds((("a", ""), ("a", ""))))
        self.no(with_kinds((("b", "a"), ("a", ""))), with_kinds((("a", "a"),)), with_kinds((("a", "c"),)))
        self.no(with_kinds((("a",),)), with_kinds((["a", ""],)), with_kinds((("A", ""),)), with_kinds(((1, ""),)))
        self.no(with_kinds((("a", None),)), with_kinds((("a", "", ""),)), with_kinds(("a",)), with_kinds((("", ""),)))

    def test_marks(self):
        def with_marks(marks):
            return (KINDS, marks, (SIDE,))

        self.yes(with_marks(()), with_marks(("a",)), with_marks(("a", "b")))
        self.no(with_marks(("a", "b", "c")), with_marks(("a", "a")), with_marks(("A",)), with_marks((1,)), with_marks(("",)))
        self.no(with_marks((True,)), with_marks((("a",),)), with_marks(["a"]))

    def test_rooms(self):
        def with_rooms(*rooms):
            return (KINDS, MARKS, rooms)

        room = (BACK,), ()
        self.yes(with_rooms(*(((name,) + room) for name in "abcde")))
        self.no(with_rooms(), with_rooms(*(((name,) + room) for name in "abcdef")), with_rooms(SIDE, SIDE))
        self.no(with_rooms(("", (BACK,), ())), with_rooms(("Side", (BACK,), ())), with_rooms((1, (BACK,), ())))
        self.no(with_rooms((None, (BACK,), ())), with_rooms((("side",), (BACK,), ())), with_rooms((["side"], (BACK,), ())))
        self.no(with_rooms(("side", (BACK,))), with_rooms(("side", (BACK,), (), ())), with_rooms(list(SIDE)), with_rooms("side"))
        self.no(with_rooms(("side", (), ())), with_rooms(("side", [BACK], ())), with_rooms(("side", (BACK,), [])))
        self.no(with_rooms(("side", {0: BACK}, ())), with_rooms(("side", (BACK,), {})), with_rooms(("side", (BACK,), None)))
        self.no(with_rooms(("side", BACK, ())), with_rooms(("side", None, ())), with_rooms(SIDE, None), with_rooms(SIDE, ()))

    def test_things_deep_within_one_another(self):
        deep = 1
        for step in range(98):
            deep = (deep,)
        self.no(deep, with_part(FLAT, 0, deep), with_part(FLAT, 1, deep), with_part(FLAT, 2, deep), with_rows(deep, BACK))
        self.no(with_rows(("say", deep, "hi"), BACK), with_rows(("jump", deep)), with_catch(0, 1, F, deep, 0), with_catch(0, 1, deep, 0, 0))


class RowsTest(FlatTest):
    def test_the_last_row(self):
        for last in (("jump", 0), ("throw", 3), ("slip", F, "io"), BACK):
            self.yes(with_rows(last), with_rows(("say", F, "hi"), last))
        for last in (("say", F, "hi"), ("on", "lit"), ("off", "lit"), ("call", F, "side"), ("when", "lit", 0), ("pick", 0, 0),
                     ("pick", 0, 0, 0), ("turn", 0), ("told", "pass", F, 0)):
            self.no(with_rows(last), with_rows(BACK, last))
            self.yes(with_rows(last, BACK))

    def test_the_last_row_of_each_room(self):
        self.no((KINDS, MARKS, (("front", (BACK,), ()), ("side", (BACK, ("on", "lit")), ()))))

    def test_rows_that_are_none(self):
        for row in ((), ("none",), ("", F), (None,), (0,), (True,), (("back",),), (["back"],), ["back"], "back", None, 1, True, {},
                    ("leave",), ("stop",), ("pass",), ("row",), ("end",), ("take", F, 0)):
            self.no(with_rows(row, BACK), with_rows(BACK, row))

    def test_one_part_more_or_less(self):
        for number, row in enumerate(ROWS):
            if row[0] == "pick":
                continue
            self.no((KINDS, MARKS, (("front", with_part(ROWS, number, row + (0,)), ()), SIDE)))
            self.no((KINDS, MARKS, (("front", with_part(ROWS, number, row + (F,)), ()), SIDE)))
            if len(row) > 1:
                self.no((KINDS, MARKS, (("front", with_part(ROWS, number, row[:-1]), ()), SIDE)))

    def test_picks(self):
        self.yes(with_rows(("pick", 0, 1), BACK), with_rows(("pick", 1, 0, 1), BACK))
        self.no(with_rows(("pick",), BACK), with_rows(("pick", 0), BACK), with_rows(("pick", 0, 1, 0, 1), BACK))
        self.no(with_rows(("pick", (0, 1)), BACK), with_rows(("pick", [0, 1]), BACK))
        for number in (1, 2, 3):
            for part in (-1, 2, True, False, None, "0", (0,)):
                self.no(with_rows(with_part(("pick", 0, 1, 1), number, part), BACK))

    def test_numbers_of_rows(self):
        for row, number in ((("jump", 0), 1), (("when", "lit", 0), 2), (("turn", 0), 1)):
            for good in (0, 1, 2):
                self.yes(with_rows(with_part(row, number, good), BACK, BACK))
            for bad in (-1, 3, 4, 10 ** 30, True, False, None, "0", "", (0,), [0]):
                self.no(with_rows(with_part(row, number, bad), BACK, BACK))

    def test_slots(self):
        for row, number in ((("told", "pass", F, 0), 3), (("throw", 0), 1)):
            for good in (0, 1, 39, 40):
                self.yes(with_rows(with_part(row, number, good), BACK))
            for bad in (-1, 41, 100, True, False, None, "0", (0,)):
                self.no(with_rows(with_part(row, number, bad), BACK))

    def test_places(self):
        for row, number in ((("say", F, "hi"), 1), (("slip", F, "io"), 1), (("call", F, "side"), 1), (("told", "lost", F, 0), 2)):
            # Any word, be it a room or not, and any whole numbers to 4.
            for good in (F, at(0), at(0, 1, 2, 3, 4), ("none",), ("abcdefgh", 4), at(*[3] * 60)):
                self.yes(with_rows(with_part(row, number, good), BACK))
            for bad in ((), (0,), ("",), ("Front",), at(5), at(0, 5), at(-1), at(True), at(False), at("0"), at(None), at((0,)),
                        ("front", "front"), "front", None, 0, ["front"], ("front", [0]), (("front",),), ("abcdefghi",)):
                self.no(with_rows(with_part(row, number, bad), BACK))

    def test_names(self):
        for row in (("on", "lit"), ("off", "lit"), ("when", "lit", 0)):
            for good in MARKS:
                self.yes(with_rows(with_part(row, 1, good), BACK))
            for bad in ("none", "", "io", "front", "LIT", None, 0, True, ("lit",), ["lit"]):
                self.no(with_rows(with_part(row, 1, bad), BACK))
        for good in ("any", "io", "odd"):
            self.yes(with_rows(("slip", F, good), BACK))
        for bad in ("none", "", "lit", "front", None, 0, True, ("io",), ["io"]):
            self.no(with_rows(("slip", F, bad), BACK))
        for good in ("front", "side"):
            self.yes(with_rows(("call", F, good), BACK))
        for bad in ("none", "", "lit", "io", None, 0, True, ("front",), ["front"]):
            self.no(with_rows(("call", F, bad), BACK))

    def test_words(self):
        for good in ("a", "abcdefgh", "front", "none"):
            self.yes(with_rows(("say", F, good), BACK))
        for bad in ("", "abcdefghi", "A", "a b", "a1", None, 0, True, ("a",), ["a"]):
            self.no(with_rows(("say", F, bad), BACK))
        for good in ("pass", "kept", "lost"):
            self.yes(with_rows(("told", good, F, 0), BACK))
        for bad in ("take", "by", "out", "end", "slip", "say", "", "hi", None, 0, True, ("pass",), ["pass"]):
            self.no(with_rows(("told", bad, F, 0), BACK))

    def test_a_row_of_the_second_room(self):
        self.no((KINDS, MARKS, (SIDE, ("front", (("jump", 1),), ()))))
        self.no((KINDS, MARKS, (SIDE, ("front", (BACK,), (None,)))))


class CatchesTest(FlatTest):
    def test_ranges(self):
        for first in (0, 1, 2):
            for behind in (0, 1, 2):
                self.yes(with_catch(first, behind, F, 0, 0))
        # Both are rows' numbers, and there are three rows.
        for bad in (-1, 3, 4, True, False, None, "0", (0,), [0]):
            self.no(with_catch(bad, 2, F, 0, 0), with_catch(0, bad, F, 0, 0))

    def test_places(self):
        self.yes(with_catch(0, 1, at(4, 0), 0, 0), with_catch(0, 1, ("none",), 0, 0))
        for bad in ((), (0,), at(5), at(-1), at(True), "front", None, 0, ["front"], ("",)):
            self.no(with_catch(0, 1, bad, 0, 0))

    def test_takers(self):
        self.yes(with_catch(0, 1, F, (("io", 2),), 0), with_catch(0, 1, F, (("io", 0), ("io", 0), ("odd", 1)), 0))
        self.no(with_catch(0, 1, F, (), 0), with_catch(0, 1, F, (("io", 0),) * 4, 0), with_catch(0, 1, F, [("io", 0)], 0))
        self.no(with_catch(0, 1, F, ("io", 0), 0), with_catch(0, 1, F, (("io",),), 0), with_catch(0, 1, F, (("io", 0, 0),), 0))
        self.no(with_catch(0, 1, F, (["io", 0],), 0), with_catch(0, 1, F, (("io", 0), None), 0), with_catch(0, 1, F, {"io": 0}, 0))
        for bad in ("none", "", "lit", None, 0, True, ("io",), ["io"]):
            self.no(with_catch(0, 1, F, ((bad, 0),), 0), with_catch(0, 1, F, (("io", 0), (bad, 0)), 0))
        for bad in (-1, 3, True, False, None, "0", (0,)):
            self.no(with_catch(0, 1, F, (("io", bad),), 0), with_catch(0, 1, F, (("io", 0), ("io", bad)), 0))

    def test_a_row_alone(self):
        self.yes(with_catch(0, 1, F, 0, 0), with_catch(0, 1, F, 2, 0))
        for bad in (-1, 3, 10 ** 20, True, False, None, "0", [0], "io"):
            self.no(with_catch(0, 1, F, bad, 0))

    def test_slots(self):
        for good in (0, 40):
            self.yes(with_catch(0, 1, F, 0, good), with_catch(0, 1, F, (("io", 0),), good))
        for bad in (-1, 41, True, False, None, "0", (0,), [0]):
            self.no(with_catch(0, 1, F, 0, bad), with_catch(0, 1, F, (("io", 0),), bad))

    def test_things_that_are_no_catches(self):
        self.no(with_catch(), with_catch(0, 1, F, 0), with_catch(0, 1, F, 0, 0, 0), with_catch(0, 1, F, (("io", 0),)))
        for bad in (None, 0, True, "catch", [0, 1, F, 0, 0], {}, ()):
            self.no((KINDS, MARKS, (("front", (BACK,), (bad,)),)))
        # One bad catch behind a good one.
        good = (0, 0, F, 0, 0)
        self.yes((KINDS, MARKS, (("front", (BACK,), (good, good)),)))
        self.no((KINDS, MARKS, (("front", (BACK,), (good, good[:4])),)))


if __name__ == "__main__":
    unittest.main()
