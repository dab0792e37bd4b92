"""Points 21 and 22: flat houses made by hand, run row by row."""

import copy
import unittest

from slipcatch.flat import is_flat
from slipcatch.flatruns import run_flat
from tests.samples import F, KINDS, MARKS, at

BACK = ("back",)
P, Q, R = at(0), at(1), at(2)
DONE = ("done",)


def say(word):
    return ("say", F, word)


def said(*words):
    return [("say", F, word) for word in words]


class FlatRunsTest(unittest.TestCase):
    def flat(self, rows, catches=(), *rooms):
        made = (KINDS, MARKS, (("front", tuple(rows), tuple(catches)),) + rooms)
        self.assertTrue(is_flat(made), made)
        return made

    def runs(self, flat, choices, trail, end, most=1000):
        self.assertEqual(run_flat(flat, choices, most), (trail, end))


class RowsTest(FlatRunsTest):
    def test_say_and_back(self):
        self.runs(self.flat([BACK]), [], [], DONE)
        self.runs(self.flat([("say", at(3, 1), "hi"), BACK]), [], [("say", at(3, 1), "hi")], DONE)
        self.runs(self.flat([say("a"), BACK, say("b"), BACK]), [], said("a"), DONE)

    def test_jump(self):
        self.runs(self.flat([("jump", 2), say("a"), say("b"), BACK]), [], said("b"), DONE)
        self.runs(self.flat([("jump", 3), say("a"), BACK, ("jump", 1)]), [], said("a"), DONE)

    def test_on_and_off_and_when(self):
        # Where the mark is off it goes to the row, else on.
        self.runs(self.flat([("when", "lit", 2), say("a"), say("b"), BACK]), [], said("b"), DONE)
        self.runs(self.flat([("on", "lit"), ("when", "lit", 3), say("a"), say("b"), BACK]), [], said("a", "b"), DONE)
        self.runs(self.flat([("on", "warm"), ("when", "lit", 3), say("a"), say("b"), BACK]), [], said("b"), DONE)
        self.runs(self.flat([("on", "lit"), ("off", "lit"), ("when", "lit", 4), say("a"), BACK]), [], [], DONE)
        self.runs(self.flat([("on", "lit"), ("off", "warm"), ("on", "lit"), ("when", "lit", 5), say("a"), BACK]), [], said("a"), DONE)

    def test_pick(self):
        two = self.flat([("pick", 1, 3), say("a"), BACK, say("b"), BACK])
        three = self.flat([("pick", 1, 3, 2), say("a"), BACK, say("c"), BACK])
        for choice, word in ((0, "a"), (1, "b"), (2, "a"), (7, "b"), (10 ** 29, "a")):
            self.runs(two, [choice], said(word), DONE)
        for choice, words in ((0, "a"), (1, "c"), (2, ""), (3, "a"), (5, ""), (10 ** 29 + 1, "")):
            self.runs(three, [choice], said(*words), DONE)
        self.runs(two, [], [], ("waits",))
        self.runs(two, [0, 1, 1], said("a"), DONE)

    def test_turn(self):
        # To the row where the choice is even, else on.
        flat = self.flat([("turn", 3), say("a"), ("jump", 0), say("b"), BACK])
        self.runs(flat, [0], said("b"), DONE)
        self.runs(flat, [1, 3, 4], said("a", "a", "b"), DONE)
        self.runs(flat, [1, 3], said("a", "a"), ("waits",))
        self.runs(flat, [], [], ("waits",))

    def test_slip(self):
        self.runs(self.flat([say("a"), ("slip", P, "io"), say("b"), BACK]), [], said("a") + [("slip", P), ("end", P)], ("slip", P))

    def test_call_and_back(self):
        side = ("side", (say("b"), BACK), ())
        self.runs(self.flat([say("a"), ("call", P, "side"), ("call", Q, "side"), say("c"), BACK], (), side), [],
                  said("a", "b", "b", "c"), DONE)

    def test_a_call_leaves_the_marks_as_they_are(self):
        side = ("side", (("when", "lit", 2), say("b"), ("off", "lit"), ("on", "warm"), BACK), ())
        flat = self.flat([("on", "lit"), ("call", P, "side"), ("when", "lit", 4), say("x"), ("when", "warm", 6), say("c"), BACK], (), side)
        self.runs(flat, [], said("b", "c"), DONE)

    def test_out_of_rooms(self):
        deep = ("deep", (("slip", ("deep",), "odd"), BACK), ())
        side = ("side", (("call", ("side",), "deep"), say("b"), BACK), ())
        self.runs(self.flat([("call", P, "side"), say("c"), BACK], (), side, deep), [],
                  [("slip", ("deep",)), ("out", ("side",), ("deep",)), ("out", P, ("deep",)), ("end", ("deep",))], ("slip", ("deep",)))

    def test_told_and_throw(self):
        for word in ("pass", "kept", "lost"):
            flat = self.flat([("slip", P, "io"), ("told", word, Q, 5), ("throw", 5)], [(0, 1, R, 1, 5)])
            self.runs(flat, [], [("slip", P), (word, Q, P), ("end", P)], ("slip", P))

    def test_a_slip_keeps_its_kind(self):
        # Two rows slip by one place, each of its own kind.
        flat = self.flat([("turn", 2), ("slip", P, "io"), ("slip", P, "odd"), BACK], [(0, 3, R, (("any", 3),), 0)])
        self.runs(flat, [1], [("slip", P), ("take", R, 0, P)], DONE)
        self.runs(flat, [0], [("slip", P), ("by", R, P), ("end", P)], ("slip", P))
        flat = self.flat([("slip", P, "odd"), ("throw", 3), BACK], [(0, 1, Q, 1, 3), (1, 2, R, (("io", 2), ("odd", 2)), 0)])
        self.runs(flat, [], [("slip", P), ("take", R, 1, P)], DONE)


class CatchesTest(FlatRunsTest):
    def test_the_first_taker_that_fits(self):
        rows = [("slip", P, "disk"), say("a"), BACK, say("b"), BACK, say("c"), BACK]
        self.runs(self.flat(rows, [(0, 1, Q, (("net", 1), ("io", 3), ("any", 5)), 0)]), [],
                  [("slip", P), ("take", Q, 1, P)] + said("b"), DONE)
        self.runs(self.flat(rows, [(0, 1, Q, (("disk", 5), ("io", 3)), 0)]), [], [("slip", P), ("take", Q, 0, P)] + said("c"), DONE)

    def test_which_rows_a_catch_has(self):
        rows = [("pick", 1, 2, 3), ("slip", P, "io"), ("slip", Q, "io"), ("slip", R, "io"), BACK]
        for first in range(5):
            for behind in range(5):
                flat = self.flat(rows, [(first, behind, F, (("io", 4),), 0)])
                for row, slip in ((1, P), (2, Q), (3, R)):
                    if first <= row < behind:
                        self.runs(flat, [row - 1], [("slip", slip), ("take", F, 0, slip)], DONE)
                    else:
                        self.runs(flat, [row - 1], [("slip", slip), ("end", slip)], ("slip", slip))

    def test_catches_over_catches(self):
        rows = [("slip", P, "disk"), say("a"), BACK, say("b"), BACK]
        inner, outer = (0, 1, Q, (("net", 1), ("odd", 1)), 0), (0, 2, R, (("io", 3),), 0)
        self.runs(self.flat(rows, [inner, outer]), [], [("slip", P), ("by", Q, P), ("take", R, 0, P)] + said("b"), DONE)
        self.runs(self.flat(rows, [outer, inner]), [], [("slip", P), ("take", R, 0, P)] + said("b"), DONE)
        missing = (0, 1, R, (("odd", 3),), 0)
        self.runs(self.flat(rows, [inner, missing]), [], [("slip", P), ("by", Q, P), ("by", R, P), ("end", P)], ("slip", P))
        # One that has not the row is not asked and tells nothing.
        self.runs(self.flat(rows, [(1, 4, F, (("odd", 1),), 0), outer]), [], [("slip", P), ("take", R, 0, P)] + said("b"), DONE)

    def test_a_row_alone_fits_always_and_tells_nothing(self):
        rows = [("slip", P, "odd"), say("a"), BACK]
        self.runs(self.flat(rows, [(0, 1, Q, 1, 0)]), [], [("slip", P)] + said("a"), DONE)
        self.runs(self.flat(rows, [(0, 1, Q, 1, 0), (0, 1, R, (("odd", 2),), 0)]), [], [("slip", P)] + said("a"), DONE)
        self.runs(self.flat(rows, [(0, 1, R, (("io", 2),), 0), (0, 1, Q, 1, 0)]), [], [("slip", P), ("by", R, P)] + said("a"), DONE)

    def test_what_goes_by_is_put_into_no_slot(self):
        rows = [("slip", P, "io"), ("slip", Q, "odd"), ("told", "pass", F, 1), BACK]
        catches = [(0, 1, R, 1, 1), (1, 2, at(3), (("io", 3),), 1), (1, 2, R, 2, 2)]
        self.runs(self.flat(rows, catches), [], [("slip", P), ("slip", Q), ("by", at(3), Q), ("pass", F, P)], DONE)

    def test_a_catch_that_has_its_own_takers_row(self):
        # It takes what slips in its taker's row, for ever.
        flat = self.flat([("slip", P, "io"), ("slip", Q, "io"), BACK], [(0, 2, R, (("io", 1),), 0)])
        self.runs(flat, [], [("slip", P), ("take", R, 0, P)] + [("slip", Q), ("take", R, 0, Q)] * 9, ("long",), 10)
        # By choices it comes out of that.
        flat = self.flat([("slip", P, "io"), ("turn", 3), ("throw", 7), BACK], [(0, 3, R, (("any", 1),), 7)])
        self.runs(flat, [1, 1, 0], [("slip", P)] + [("take", R, 0, P)] * 3, DONE)
        self.runs(flat, [1, 1], [("slip", P)] + [("take", R, 0, P)] * 3, ("waits",))

    def test_a_call_is_the_row_that_a_slip_comes_out_of(self):
        side = ("side", (("slip", ("side",), "io"), BACK), ())
        rows = [("call", P, "side"), ("call", Q, "side"), BACK]
        slip = ("side",)
        self.runs(self.flat(rows, [(0, 1, R, (("io", 1),), 0)], side), [],
                  [("slip", slip), ("out", P, slip), ("take", R, 0, slip), ("slip", slip), ("out", Q, slip), ("end", slip)], ("slip", slip))

    def test_catches_are_a_rooms_own(self):
        # The catch of the called room has the same rows' numbers, but not the caller's rows.
        side = ("side", (("slip", ("side",), "io"), BACK), ((0, 1, ("side",), (("odd", 1),), 0),))
        slip = ("side",)
        self.runs(self.flat([("call", P, "side"), say("a"), BACK], [(0, 1, R, (("io", 1),), 0)], side), [],
                  [("slip", slip), ("by", ("side",), slip), ("out", P, slip), ("take", R, 0, slip)] + said("a"), DONE)

    def test_a_throw_is_a_row_that_a_slip_comes_out_of(self):
        rows = [("slip", P, "io"), ("throw", 0), say("a"), BACK]
        self.runs(self.flat(rows, [(0, 1, Q, 1, 0), (1, 2, R, (("io", 2),), 0)]), [], [("slip", P), ("take", R, 0, P)] + said("a"), DONE)
        self.runs(self.flat(rows, [(0, 1, Q, 1, 0), (0, 1, R, (("io", 2),), 0)]), [], [("slip", P), ("end", P)], ("slip", P))


class SlotsTest(FlatRunsTest):
    def test_slots_are_kept_apart(self):
        rows = [("slip", P, "io"), ("slip", Q, "odd"), ("told", "pass", F, 0), ("told", "kept", F, 40), ("throw", 0)]
        self.runs(self.flat(rows, [(0, 1, R, 1, 0), (1, 2, R, 2, 40)]), [],
                  [("slip", P), ("slip", Q), ("pass", F, P), ("kept", F, Q), ("end", P)], ("slip", P))

    def test_a_slot_is_filled_anew(self):
        rows = [("slip", P, "io"), ("slip", Q, "odd"), ("throw", 3)]
        self.runs(self.flat(rows, [(0, 1, R, 1, 3), (1, 2, R, 2, 3)]), [], [("slip", P), ("slip", Q), ("end", Q)], ("slip", Q))

    def test_slots_are_a_calls_own(self):
        slip = ("side", 0)
        side = ("side", (("slip", slip, "odd"), ("told", "kept", ("side",), 1), BACK), ((0, 1, ("side",), 1, 1),))
        rows = [("slip", P, "io"), ("call", Q, "side"), ("throw", 1)]
        self.runs(self.flat(rows, [(0, 1, R, 1, 1)], side), [],
                  [("slip", P), ("slip", slip), ("kept", ("side",), slip), ("end", P)], ("slip", P))

    def test_slots_of_a_room_that_calls_itself(self):
        # With lit it slips Q and keeps it in its own slot 0; the caller's still has P.
        rows = [
            ("when", "lit", 4), ("slip", Q, "odd"), ("told", "kept", F, 0), BACK,
            ("on", "lit"), ("slip", P, "io"), ("call", R, "front"), ("told", "lost", F, 0), BACK,
        ]
        self.runs(self.flat(rows, [(1, 2, F, 2, 0), (5, 6, F, 6, 0)]), [],
                  [("slip", P), ("slip", Q), ("kept", F, Q), ("lost", F, P)], DONE)


class MostTest(FlatRunsTest):
    def test_none(self):
        self.runs(self.flat([BACK]), [], [], ("long",), 0)
        self.runs(self.flat([("turn", 1), BACK]), [], [], ("long",), 0)

    def test_where_so_many_are_done_it_is_long_whatever_the_next_one_is(self):
        flat = self.flat([say("a"), ("turn", 2), say("b"), BACK])
        self.runs(flat, [], said("a"), ("long",), 1)
        self.runs(flat, [], said("a"), ("waits",), 2)
        self.runs(flat, [0], said("a"), ("long",), 2)
        self.runs(flat, [0], said("a", "b"), ("long",), 3)
        self.runs(flat, [0], said("a", "b"), DONE, 4)
        self.runs(flat, [0], said("a", "b"), DONE, 60000)

    def test_a_slip_out_of_the_house_by_the_last_row(self):
        flat = self.flat([say("a"), ("slip", P, "io")])
        self.runs(flat, [], said("a"), ("long",), 1)
        self.runs(flat, [], said("a") + [("slip", P), ("end", P)], ("slip", P), 2)

    def test_back_from_a_called_room_is_a_row(self):
        flat = self.flat([("call", P, "side"), BACK], (), ("side", (BACK,), ()))
        self.runs(flat, [], [], ("long",), 2)
        self.runs(flat, [], [], DONE, 3)

    def test_a_room_that_calls_itself_for_ever(self):
        flat = self.flat([say("a"), ("call", P, "front"), BACK])
        self.runs(flat, [], said("a") * 30000, ("long",), 60000)
        self.runs(flat, [], said("a") * 2, ("long",), 3)

    def test_a_slip_that_comes_up_through_many_calls(self):
        flat = self.flat([("turn", 3), ("call", P, "front"), BACK, ("slip", Q, "io")])
        trail, end = run_flat(flat, [1] * 900 + [0], 60000)
        self.assertEqual(end, ("slip", Q))
        self.assertEqual(trail, [("slip", Q)] + [("out", P, Q)] * 900 + [("end", Q)])

    def test_jumps_for_ever(self):
        self.runs(self.flat([("jump", 0)]), [], [], ("long",), 60000)


class OwnTest(FlatRunsTest):
    def test_what_is_told_is_the_askers_own_and_what_is_handed_in_stays(self):
        flat = self.flat([("turn", 2), ("slip", P, "io"), say("a"), BACK], [(0, 2, R, 2, 0)])
        kept = copy.deepcopy(flat)
        choices = [1]
        first = run_flat(flat, choices, 100)
        self.assertIsInstance(first, tuple)
        self.assertIsInstance(first[0], list)
        first[0].append("more")
        self.assertEqual(run_flat(flat, choices, 100), (first[0][:-1], DONE))
        self.assertEqual(choices, [1])
        self.assertEqual(flat, kept)


if __name__ == "__main__":
    unittest.main()
