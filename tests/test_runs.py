"""Points 10 to 12: how each deed is done, what the trail tells of it, and how a run ends."""

import copy
import random
import unittest

from slipcatch.runs import run
from tests.reference import Watched
from tests.samples import F, HOUSE, at, good_house, house_of

DONE = ("done",)
WAITS = ("waits",)
LONG = ("long",)


def said(trail):
    return " ".join(thing[2] for thing in trail if thing[0] == "say")


def told(trail):
    """The words of what happens, but for what is said."""
    return " ".join(thing[0] for thing in trail if thing[0] != "say")


class RunTest(unittest.TestCase):
    def whole(self, rooms, choices, trail, end, many):
        self.assertEqual(run(house_of(rooms), choices, 100), (trail, end, many), (rooms, choices))

    def says(self, rooms, choices, words, end=DONE):
        told_run = run(house_of(rooms), choices, 100)
        self.assertEqual((said(told_run[0]), told_run[1]), (words, end), (rooms, choices))


class SimpleTest(RunTest):
    def test_say(self):
        self.whole("say hi", [], [("say", F, "hi")], DONE, 1)

    def test_slip(self):
        self.whole("slip io", [], [("slip", F), ("end", F)], ("slip", F), 1)

    def test_leave_is_done(self):
        self.whole("leave", [], [], DONE, 1)

    def test_on_and_off_say_nothing(self):
        self.whole("on lit", [], [], DONE, 1)
        self.whole("off warm", [], [], DONE, 1)

    def test_pass(self):
        trail = [("slip", at(0)), ("take", F, 0, at(0)), ("pass", at(1), at(0)), ("end", at(0))]
        self.whole("catch slip io of any pass", [], trail, ("slip", at(0)), 3)

    def test_stop(self):
        self.whole("again stop", [1], [], DONE, 2)


class RowTest(RunTest):
    def test_the_empty_one(self):
        self.whole("{}", [], [], DONE, 1)

    def test_in_order(self):
        trail = [("say", at(0), "a"), ("say", at(1), "b"), ("say", at(2), "c"), ("say", at(3), "d")]
        self.whole("{say a; say b; say c; say d}", [], trail, DONE, 5)

    def test_it_ends_as_the_first_that_is_not_done(self):
        self.whole("{say a; leave; say b}", [], [("say", at(0), "a")], DONE, 3)
        self.whole("{say a; slip io; slip odd}", [], [("say", at(0), "a"), ("slip", at(1)), ("end", at(1))],
                   ("slip", at(1)), 3)
        self.says("{again {say a; stop; say b}; say c}", [1], "a c")

    def test_a_row_in_a_row(self):
        self.says("{{say a; {}}; {{say b}; say c}; {leave; say d}; say e}", [], "a b c")


class PickTest(RunTest):
    def test_the_choices_rest_tells_which(self):
        for choice in list(range(8)) + [10 ** 29, 10 ** 30 - 1, 10 ** 30 - 2, 123456789012345678901234567890]:
            self.says("pick {say a | say b}", [choice], "ab"[choice % 2])
            self.says("pick {say a | say b | say c}", [choice], "abc"[choice % 3])

    def test_its_place_and_how_many(self):
        self.whole("pick {say a | {say b} | say c}", [4], [("say", at(1, 0), "b")], DONE, 3)

    def test_it_ends_as_that_one_does(self):
        text = "{again {pick {stop | leave | say a}; say b}; say c}"
        self.says(text, [1, 0], "c")
        self.says(text, [1, 1], "")
        self.says(text, [1, 2, 0], "a b c")
        self.says("pick {slip io | say a}", [2], "", ("slip", at(0)))

    def test_one_choice_each_in_order(self):
        self.says("{pick {say a | say b}; pick {say c | say d}; pick {say e | say f}}", [0, 1, 0], "a d e")
        self.says("pick {pick {say a | say b} | pick {say c | say d}}", [1, 0], "c")


class AgainTest(RunTest):
    def test_even_choices_end_it(self):
        for choice in (0, 2, 44, 10 ** 29):
            self.whole("again say a", [choice], [], DONE, 1)

    def test_odd_choices_do_it_anew(self):
        for choice in (1, 3, 10 ** 30 - 1):
            self.whole("again say a", [choice, choice, 0], [("say", at(0), "a")] * 2, DONE, 3)

    def test_it_is_not_begun_anew_itself(self):
        self.assertEqual(run(house_of("again {}"), [1] * 7 + [0], 100), ([], DONE, 8))

    def test_stop_ends_it_without_a_choice(self):
        self.says("{again {say a; pick {stop | {}}}; say b}", [1, 1, 1, 0], "a a b")

    def test_stop_ends_the_nearest_one(self):
        self.says("{again {again stop; say a}; say b}", [1, 1, 1, 0, 0], "a a b")

    def test_other_ends_are_its_own(self):
        self.says("{again leave; say b}", [1], "")
        self.says("{again slip io; say b}", [1], "", ("slip", at(0, 0)))

    def test_stop_through_others(self):
        for text in ("{stop; say x}", "pick {stop | stop}", "when lit say x else stop", "catch stop of any say x",
                     "catch slip io of any stop", "clean stop with {}", "clean {} with stop"):
            shown = text if text[0] in "{p" else "(" + text + ")"
            self.says("{again " + shown + "; say a}", [1, 0], "a")


class WhenTest(RunTest):
    def test_all_marks_are_off_at_first(self):
        self.says("{when lit say a else say b; when warm say c else say d}", [], "b d")

    def test_by_its_own_mark(self):
        text = "when lit say a else say b; when warm say c else say d}"
        self.says("{on lit; " + text, [], "a d")
        self.says("{on warm; " + text, [], "b c")
        self.says("{{on warm; on lit}; " + text, [], "a c")
        self.says("{{on warm; on lit; off lit}; " + text, [], "b c")
        self.says("{{on lit; on lit; off lit}; " + text, [], "b d")
        self.says("{{off lit; on lit}; " + text, [], "a d")

    def test_places(self):
        self.whole("when lit say a else say b", [], [("say", at(1), "b")], DONE, 2)
        self.whole("{on lit; when lit say a else say b}", [], [("say", at(1, 0), "a")], DONE, 4)

    def test_it_is_asked_once(self):
        self.says("when lit say a else {on lit; say b}", [], "b")

    def test_it_ends_as_that_does(self):
        self.says("{when lit {} else leave; say a}", [], "")
        self.says("{when lit {} else slip odd; say a}", [], "", ("slip", at(0, 1)))

    def test_marks_stay_whatever_way_a_deed_ends(self):
        look = "when lit say a else say b"
        self.says("{catch {on lit; slip io} of any {}; " + look + "}", [], "a")
        self.says("{again {on lit; stop}; " + look + "}", [1], "a")
        self.says(("front: {call back; " + look + "}", "back: {on lit; leave}"), [], "a")
        self.says("{on lit; catch {off lit; slip io} of any {}; " + look + "}", [], "b")
        self.says("clean {on lit; leave} with (" + look + ")", [], "a")
        self.says("catch {on lit; slip io} of any (" + look + ")", [], "a")


class CallTest(RunTest):
    def test_behind_done_and_leave_it_is_done(self):
        for back in ("say a", "{say a; leave; say x}"):
            self.says(("front: {call back; say b}", "back: " + back), [], "a b")

    def test_places_and_how_many(self):
        rooms = ("front: {call back; say b}", "back: {say a}")
        self.whole(rooms, [], [("say", ("back", 0), "a"), ("say", at(1), "b")], DONE, 5)

    def test_a_slip_comes_out(self):
        rooms = ("front: {{call back}; say b}", "back: {slip io; say a}")
        slip = ("back", 0)
        self.whole(rooms, [], [("slip", slip), ("out", at(0, 0), slip), ("end", slip)], ("slip", slip), 5)

    def test_through_several_calls(self):
        rooms = ("front: call back", "back: {call side}", "side: slip odd")
        slip = ("side",)
        trail = [("slip", slip), ("out", ("back", 0), slip), ("out", F, slip), ("end", slip)]
        self.whole(rooms, [], trail, ("slip", slip), 4)

    def test_out_of_the_front_room_by_a_call_and_at_the_end(self):
        slip = at(1)
        trail = [("slip", slip), ("out", at(0), slip), ("end", slip)]
        self.whole("pick {call front | slip io}", [0, 1], trail, ("slip", slip), 4)

    def test_it_leaves_the_marks_as_they_are(self):
        look = "when lit say a else say b"
        self.says(("front: {on lit; call back; " + look + "}", "back: {" + look + "; off lit}"), [], "a b")
        self.says(("front: {call back; " + look + "}", "back: {" + look + "; on lit}"), [], "b a")

    def test_a_rooms_deed_has_no_slip_in_hand(self):
        rooms = ("front: catch slip io of any {call back; pass}", "back: catch slip odd of odd pass of any say x")
        first = at(0)
        second = ("back", 0)
        # The called room's own slip comes out, for its pass is with that one.
        trail = [("slip", first), ("take", F, 0, first), ("slip", second), ("take", ("back",), 0, second),
                 ("pass", ("back", 1), second), ("out", at(1, 0), second), ("end", second)]
        self.whole(rooms, [], trail, ("slip", second), 7)
        self.assertEqual(Watched(house_of(rooms), [], 100).begun[4], (("back",), (), None))


class CleanTest(RunTest):
    def test_places_and_order(self):
        self.whole("clean say a with say b", [], [("say", at(0), "a"), ("say", at(1), "b")], DONE, 3)

    def test_each_end_of_the_one_with_each_of_the_other(self):
        # Where the 1 is done, the clean ends as the 0 did, else as the 1 did.
        slip = at(0, 0, 0)
        other = at(0, 0, 1)
        ends = {"{}": "done", "leave": "leave", "stop": "stop"}
        for first in ("{}", "leave", "stop", "slip io"):
            for second in ("{}", "leave", "stop", "slip odd"):
                trail = []
                if first == "slip io":
                    trail = [("slip", slip), ("kept" if second == "{}" else "lost", at(0, 0), slip)]
                if second == "slip odd":
                    trail.insert(min(1, len(trail)), ("slip", other))
                last = ends.get(second, other) if second != "{}" else ends.get(first, slip)
                # Behind done the again asks anew, behind stop the word is said, behind leave it is not.
                end = {"done": WAITS, "stop": DONE, "leave": DONE}.get(last, ("slip", last))
                if isinstance(last, tuple):
                    trail.append(("end", last))
                if last == "stop":
                    trail.append(("say", at(1), "a"))
                many = 5 + (last == "stop")
                self.whole("{again (clean " + first + " with " + second + "); say a}", [1], trail, end, many)

    def test_kept_is_told_behind_the_cleaning(self):
        trail = [("slip", at(0)), ("say", at(1), "a"), ("kept", F, at(0)), ("end", at(0))]
        self.whole("clean slip io with say a", [], trail, ("slip", at(0)), 3)

    def test_lost_is_told_behind_what_loses_it(self):
        trail = [("slip", at(0)), ("slip", at(1)), ("lost", F, at(0)), ("end", at(1))]
        self.whole("clean slip io with slip odd", [], trail, ("slip", at(1)), 3)

    def test_a_slip_that_is_taken_within_the_cleaning_keeps_the_other(self):
        first, second = at(0), at(1, 0)
        trail = [("slip", first), ("slip", second), ("take", at(1), 0, second), ("say", at(1, 1), "a"),
                 ("kept", F, first), ("end", first)]
        self.whole("clean slip io with (catch slip odd of odd say a)", [], trail, ("slip", first), 5)

    def test_one_in_the_other_from_within_outwards(self):
        trail = [("slip", at(0, 0)), ("say", at(0, 1), "a"), ("kept", at(0), at(0, 0)), ("lost", F, at(0, 0))]
        self.whole("clean (clean slip io with say a) with leave", [], trail, DONE, 5)

    def test_both_have_the_slip_in_hand_of_the_clean(self):
        slip, taken, other = at(0), at(1, 0), at(1, 1)
        trail = [("slip", slip), ("take", F, 0, slip), ("pass", taken, slip), ("pass", other, slip),
                 ("lost", at(1), slip), ("end", slip)]
        self.whole("catch slip io of any (clean pass with pass)", [], trail, ("slip", slip), 5)
        trail = [("slip", slip), ("take", F, 0, slip), ("slip", taken), ("pass", other, slip),
                 ("lost", at(1), taken), ("end", slip)]
        self.whole("catch slip io of any (clean slip odd with pass)", [], trail, ("slip", slip), 5)

    def test_cleaned_though_the_room_is_left(self):
        self.says(("front: {call back; say b}", "back: clean {leave; say x} with say a"), [], "a b")


class CatchTest(RunTest):
    def test_done_without_a_slip(self):
        self.whole("catch say a of any say x", [], [("say", at(0), "a")], DONE, 2)

    def test_other_ends_are_its_own(self):
        self.says("{catch leave of any say x; say y}", [], "")
        self.says("{again (catch stop of any say x); say a}", [1], "a")

    def test_taken(self):
        trail = [("slip", at(0)), ("take", F, 0, at(0)), ("say", at(1), "a")]
        self.whole("catch slip io of io say a", [], trail, DONE, 3)

    def test_the_first_taker_that_fits(self):
        for kind, number in (("disk", 0), ("net", 1), ("io", 1), ("any", 2)):
            text = "catch slip " + kind + " of disk say a of io say b of any say c"
            trail = [("slip", at(0)), ("take", F, number, at(0)), ("say", at(1 + number), "abc"[number])]
            self.whole(text, [], trail, DONE, 3)
        self.says("catch slip disk of any say a of disk say b", [], "a")
        self.says("catch slip disk of odd say a of disk say b of disk say c", [], "b")

    def test_it_goes_by(self):
        # A kind fits where it is over the slip's, not under it or beside it.
        for kind, takers in (("odd", "of any {}"), ("io", "of disk {} of net {}"), ("disk", "of net {}"), ("any", "of io {}")):
            trail = [("slip", at(0)), ("by", F, at(0)), ("end", at(0))]
            self.whole("catch slip " + kind + " " + takers, [], trail, ("slip", at(0)), 2)

    def test_by_one_and_taken_by_the_next(self):
        slip = at(0, 0)
        trail = [("slip", slip), ("by", at(0), slip), ("take", F, 0, slip)]
        self.whole("catch (catch slip disk of net say x) of io {}", [], trail, DONE, 4)

    def test_it_ends_as_the_taker_does(self):
        self.says("{catch slip io of any leave; say x}", [], "")
        self.says("{again (catch slip io of any stop); say a}", [1], "a")
        self.says("{catch slip io of any {}; say a}", [], "a")
        trail = [("slip", at(0)), ("take", F, 0, at(0)), ("slip", at(1)), ("end", at(1))]
        # What comes out of a taker is taken by none beside it, and goes by none.
        self.whole("catch slip io of io slip odd of odd say x", [], trail, ("slip", at(1)), 3)
        self.whole("catch slip io of any slip io", [], trail, ("slip", at(1)), 3)

    def test_a_passed_slip_is_the_same_slip(self):
        slip = at(0, 0)
        trail = [("slip", slip), ("take", at(0), 1, slip), ("pass", at(0, 2), slip), ("take", F, 0, slip),
                 ("say", at(1), "a")]
        self.whole("catch (catch slip disk of net {} of io pass) of disk say a", [], trail, DONE, 5)

    def test_the_slip_in_hand_within_a_taker(self):
        first, second = at(0), at(1, 0)
        # The 0 of a catch in a taker has the elder slip in hand, its taker the younger one.
        trail = [("slip", first), ("take", F, 0, first), ("pass", second, first), ("take", at(1), 0, first),
                 ("pass", at(1, 1), first), ("end", first)]
        self.whole("catch slip io of any (catch pass of any pass)", [], trail, ("slip", first), 5)
        trail = [("slip", first), ("take", F, 0, first), ("slip", second), ("take", at(1), 0, second),
                 ("pass", at(1, 1), second), ("end", second)]
        self.whole("catch slip io of any (catch slip odd of odd pass)", [], trail, ("slip", second), 5)

    def test_behind_a_catch_in_a_taker_the_elder_slip_is_in_hand(self):
        first, second = at(0), at(1, 0, 0)
        trail = [("slip", first), ("take", F, 0, first), ("slip", second), ("take", at(1, 0), 0, second),
                 ("pass", at(1, 1), first), ("end", first)]
        self.whole("catch slip io of any {catch slip odd of odd {}; pass}", [], trail, ("slip", first), 7)

    def test_a_pass_deep_in_a_taker(self):
        for text in ("{{}; pass}", "pick {pass | pass}", "(again pass)", "(when lit {} else pass)"):
            told_run = run(house_of("catch slip io of any " + text), [1], 100)
            self.assertEqual(told_run[1], ("slip", at(0)), text)
            self.assertEqual(told(told_run[0]), "slip take pass end", text)

    def test_a_slip_out_of_a_room_is_taken(self):
        rooms = ("front: catch call back of io say a", "back: slip net")
        slip = ("back",)
        self.whole(rooms, [], [("slip", slip), ("out", at(0), slip), ("take", F, 0, slip), ("say", at(1), "a")], DONE, 4)


class EndTest(RunTest):
    def ends(self, rooms, choices, most, trail, end, many):
        self.assertEqual(run(house_of(rooms), choices, most), (trail, end, many), (rooms, choices, most))

    def test_waits(self):
        self.ends("pick {say a | say b}", [], 100, [], WAITS, 1)
        self.ends("again say a", [], 100, [], WAITS, 1)
        self.ends("again say a", [1], 100, [("say", at(0), "a")], WAITS, 2)
        self.ends("{say a; again {}}", [1, 1], 100, [("say", at(0), "a")], WAITS, 5)
        self.ends("clean pick {{} | {}} with say x", [], 100, [], WAITS, 2)

    def test_long(self):
        self.ends("{say a; say b}", [], 2, [("say", at(0), "a")], LONG, 2)
        self.ends("{say a; say b}", [], 1, [], LONG, 1)
        self.ends("{say a; say b}", [], 3, [("say", at(0), "a"), ("say", at(1), "b")], DONE, 3)
        self.ends("call front", [], 7, [], LONG, 7)

    def test_no_deed_at_most(self):
        for text in ("say a", "{}", "slip io", "pick {say a | say b}", "again say a", "leave", "call front"):
            self.ends(text, [], 0, [], LONG, 0)
            self.ends(text, [1, 0], 0, [], LONG, 0)

    def test_a_run_that_ends_with_its_last_deed_is_not_long(self):
        self.ends("say a", [], 1, [("say", F, "a")], DONE, 1)
        self.ends("slip io", [], 1, [("slip", F), ("end", F)], ("slip", F), 1)
        self.ends("again {}", [0], 1, [], DONE, 1)
        self.ends("again {}", [1, 0], 2, [], DONE, 2)

    def test_which_of_the_two_comes_first(self):
        # The choice is asked behind the beginning of what asks it.
        self.ends("pick {say a | say b}", [], 1, [], WAITS, 1)
        self.ends("pick {say a | say b}", [1], 1, [], LONG, 1)
        self.ends("again say a", [], 1, [], WAITS, 1)
        self.ends("again say a", [1], 1, [], LONG, 1)
        self.ends("again say a", [1], 2, [("say", at(0), "a")], WAITS, 2)
        self.ends("again say a", [1, 1], 2, [("say", at(0), "a")], LONG, 2)
        self.ends("{say a; pick {{} | {}}}", [], 2, [("say", at(0), "a")], LONG, 2)
        self.ends("{say a; pick {{} | {}}}", [], 3, [("say", at(0), "a")], WAITS, 3)

    def test_what_happens_ahead_of_a_beginning_is_told(self):
        self.ends("catch slip io of any say a", [], 2, [("slip", at(0)), ("take", F, 0, at(0))], LONG, 2)
        self.ends("clean slip io with say a", [], 2, [("slip", at(0))], LONG, 2)
        self.ends(("front: catch call back of any {}", "back: slip io"), [], 3,
                  [("slip", ("back",)), ("out", at(0), ("back",)), ("take", F, 0, ("back",))], LONG, 3)

    def test_no_choices_and_more_than_are_used(self):
        self.ends("say a", [], 100, [("say", F, "a")], DONE, 1)
        self.ends("say a", [5, 6, 7], 100, [("say", F, "a")], DONE, 1)
        self.ends("pick {say a | say b}", [1] + [0] * 999, 100, [("say", at(1), "b")], DONE, 2)

    def test_done_by_leave_and_by_a_slip(self):
        self.ends("{leave; slip io}", [], 100, [], DONE, 2)
        self.ends("{slip io; leave}", [], 100, [("slip", at(0)), ("end", at(0))], ("slip", at(0)), 2)


class DeepTest(unittest.TestCase):
    def test_a_room_that_calls_itself_for_ever(self):
        self.assertEqual(run(house_of("call front"), [], 5000), ([], LONG, 5000))
        self.assertEqual(run(house_of("{call front}"), [], 4999), ([], LONG, 4999))
        told_run = run(house_of("front: {say a; call back}", "back: clean call front with say b"), [], 5000)
        self.assertEqual(told_run[1:], (LONG, 5000))
        self.assertEqual(told_run[0], [("say", at(0), "a")] * 1000)

    def test_through_what_holds_a_call(self):
        for text in ("again call front", "pick {{} | call front}", "when lit {} else call front",
                     "clean call front with {}", "catch call front of any {}", "{call front}"):
            told_run = run(house_of(text), [1] * 2600, 5000)
            self.assertEqual(told_run, ([], LONG, 5000), text)

    def test_one_that_calls_itself_many_times_till_it_slips(self):
        slip = at(1)
        told_run = run(house_of("pick {call front | slip io}"), [0] * 2499 + [1], 5000)
        self.assertEqual(told_run, ([("slip", slip)] + [("out", at(0), slip)] * 2499 + [("end", slip)], ("slip", slip), 5000))

    def test_cleaned_at_each_call(self):
        slip = at(0, 1)
        told_run = run(house_of("clean pick {call front | slip io} with say a"), [0] * 900 + [1], 5000)
        turn = [("say", at(1), "a"), ("kept", F, slip)]
        trail = [("slip", slip)] + (turn + [("out", at(0, 0), slip)]) * 900 + turn + [("end", slip)]
        self.assertEqual(told_run, (trail, ("slip", slip), 900 * 4 + 4))

    def test_by_at_each_call(self):
        slip = at(0, 1)
        told_run = run(house_of("catch pick {call front | slip odd} of io {}"), [0] * 999 + [1], 5000)
        trail = [("slip", slip)] + [("by", F, slip), ("out", at(0, 0), slip)] * 999 + [("by", F, slip), ("end", slip)]
        self.assertEqual(told_run, (trail, ("slip", slip), 3000))

    def test_one_that_comes_back_done(self):
        self.assertEqual(run(house_of("pick {call front | leave}"), [0] * 2499 + [1], 5000), ([], DONE, 5000))
        told_run = run(house_of("{pick {call front | {}}; say a}"), [0] * 1000 + [1], 5000)
        self.assertEqual(told_run, ([("say", at(1), "a")] * 1001, DONE, 4004))

    def test_many_times_round(self):
        told_run = run(house_of("again say a"), [1] * 4999 + [0], 5000)
        self.assertEqual(told_run, ([("say", at(0), "a")] * 4999, DONE, 5000))
        self.assertEqual(run(house_of("again say a"), [1] * 5000, 5000)[1:], (LONG, 5000))
        self.assertEqual(run(house_of("again say a"), [1] * 999, 5000)[1:], (WAITS, 1000))


class PropertyTest(unittest.TestCase):
    def some(self, seed, many, most=24):
        chance = random.Random(seed)
        for step in range(many):
            house = good_house(chance, most)
            yield chance, house, [chance.randrange(12) for turn in range(chance.randint(0, 14))]

    def test_as_done_in_another_way(self):
        ends = set()
        for chance, house, choices in self.some(10, 1500):
            most = chance.choice((5, 20, 150))
            watched = Watched(house, choices, most)
            self.assertEqual(run(house, choices, most), watched.told(), (house, choices, most))
            ends.add(watched.end[0])
        self.assertEqual(ends, {"done", "slip", "waits", "long"})

    def test_by_fewer_choices_the_trail_is_a_beginning(self):
        for chance, house, choices in self.some(11, 200):
            trail, end, many = run(house, choices, 150)
            for count in range(len(choices)):
                part, part_end, part_many = run(house, choices[:count], 150)
                self.assertEqual(part, trail[:len(part)])
                self.assertLessEqual(part_many, many)
                if part_end != WAITS:
                    self.assertEqual((part, part_end, part_many), (trail, end, many))

    def test_by_fewer_deeds_the_trail_is_a_beginning(self):
        for chance, house, choices in self.some(12, 200):
            trail, end, many = run(house, choices, 150)
            for most in range(many):
                part, part_end, part_many = run(house, choices, most)
                self.assertEqual(part, trail[:len(part)])
                self.assertEqual((part_end, part_many), (LONG, most))
            for most in (many, many + 1):
                if end != LONG:
                    self.assertEqual(run(house, choices, most), (trail, end, many))

    def test_choices_of_one_rest_do_the_same(self):
        for chance, house, choices in self.some(13, 200):
            other = [choice % 6 + 6 * chance.randrange(10 ** 28) for choice in choices]
            self.assertEqual(run(house, other, 150), run(house, choices, 150))

    def test_lists_are_lists_and_tuples_tuples(self):
        def look(thing):
            self.assertIn(thing.__class__, (tuple, str, int))
            for part in thing if isinstance(thing, tuple) else ():
                look(part)

        for chance, house, choices in self.some(14, 100):
            told_run = run(house, choices, 100)
            self.assertIs(told_run.__class__, tuple)
            self.assertIs(told_run[0].__class__, list)
            for thing in told_run[0] + [told_run[1], told_run[2]]:
                look(thing)

    def test_a_told_trail_is_the_askers_own(self):
        first = run(HOUSE, [0], 100)
        kept = copy.deepcopy(first)
        first[0].clear()
        first[0].append(("say", F, "x"))
        self.assertEqual(run(HOUSE, [0], 100), kept)

    def test_what_is_handed_in_stays_as_it_was(self):
        choices = [1, 0, 5, 10 ** 29]
        kept = list(choices)
        first = run(HOUSE, choices, 100)
        self.assertEqual(choices, kept)
        choices.clear()
        self.assertEqual(first, run(HOUSE, kept, 100))
        self.assertEqual(run(HOUSE, choices, 100)[1], WAITS)


class HouseTest(unittest.TestCase):
    def test_the_whole(self):
        # The slip of disk comes out of the room, the first taker takes it, its again slips anew or is stopped.
        slip = ("back", 0)
        head = [("slip", slip), ("out", at(0, 1), slip), ("take", F, 0, slip)]
        self.assertEqual(run(HOUSE, [0], 100), (head, DONE, 7))
        self.assertEqual(run(HOUSE, [1], 100), (head, DONE, 9))
        self.assertEqual(run(HOUSE, [], 100), (head, WAITS, 7))
        self.assertEqual(run(HOUSE, [], 6), (head, LONG, 6))


if __name__ == "__main__":
    unittest.main()
