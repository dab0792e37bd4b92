"""Point 23: the rows that a desk is told, and what it answers."""

import random
import unittest

from slipcatch import errors
from slipcatch.desk import Desk
from slipcatch.errors import NoHouse, NoMeet, NoRoom, NoRow, NoStand, NoText, TooFar
from slipcatch.flat import made_flat
from slipcatch.houses import places_of
from slipcatch.idle import idle_places, pruned
from slipcatch.lists import comes_out, lowest_lists
from slipcatch.meets import meets_of
from slipcatch.runs import run
from slipcatch.shows import shown
from slipcatch.texts import show_house
from slipcatch.watchers import watched
from tests.samples import HEAD, HOUSE, HOUSE_TEXT, far_house, house_of, lively_house, random_watcher, very_far_house

STORE = HEAD + (
    "front: {say hi; catch pick {call back | {say a; slip odd} | say b} of disk {say oops; pass} of io {}; say bye}\n"
    "back: clean pick {slip disk | slip net} with say tidy\n"
    "side: {say never; slip any}"
)


def dotted(place):
    return ".".join(str(part) for part in place)


def line_of(thing):
    return " ".join(dotted(part) if isinstance(part, tuple) else str(part) for part in thing)


def figures(choices):
    return " " + "".join(str(choice) for choice in choices) if choices else ""


def desk_with(house):
    desk = Desk()
    desk.say("house\n" + (house if isinstance(house, str) else show_house(house)))
    return desk


class DeskTest(unittest.TestCase):
    def setUp(self):
        self.desk = desk_with(STORE)

    def answers(self, row, expected):
        answer = self.desk.say(row)
        self.assertIs(type(answer), str)
        self.assertEqual(answer, expected, row)

    def refuses(self, row, refusal, desk=None):
        with self.assertRaises(refusal, msg=repr(row)) as caught:
            (desk or self.desk).say(row)
        self.assertIs(type(caught.exception), refusal, repr(row))
        return caught.exception

    def changes_nothing(self):
        self.answers("run 2", "done hi b bye")
        self.answers("flat", " ".join(str(len(room[1])) for room in made_flat(house_of(*STORE.split("\n")[2:]))[2]))


class HouseTest(DeskTest):
    def test_ok_and_in_the_place_of_the_elder_one(self):
        self.answers("house\n" + HEAD + "front: say new", "ok")
        self.answers("run", "done new")
        self.answers("house\n" + HEAD + "front: say newer", "ok")
        self.answers("run", "done newer")
        self.answers("house\n" + HOUSE_TEXT, "ok")
        self.answers("idle", " ".join(dotted(place) for place in idle_places(HOUSE)))

    def test_refused_texts_change_nothing(self):
        for text in ("", "\n", "kinds any", HEAD, HEAD + "front: say", " " + STORE, STORE + "\n", HEAD + "\nfront: {}", "house\n" + STORE):
            self.refuses("house\n" + text, NoText)
            self.changes_nothing()
        for text, fault in (("front: slip none", "names"), ("front: pass", "pass"), ("front: stop", "stop"),
                            ("front: clean {} with (clean {} with {})", "great"), ("front: {}\nfront: {}", "names")):
            self.assertEqual(self.refuses("house\n" + HEAD + text, NoHouse).fault, fault)
            self.changes_nothing()

    def test_rows_that_are_none(self):
        for row in ("house", "house ", "house " + STORE, "house " + "\n" + STORE, "House\n" + STORE, "houses\n" + STORE, " house\n" + STORE,
                    "\nhouse\n" + STORE, STORE, "house" + STORE):
            self.refuses(row, NoRow)
            self.changes_nothing()

    def test_a_refused_house_is_no_house_told(self):
        desk = Desk()
        self.refuses("house\n" + HEAD + "front: pass", NoHouse, desk)
        self.refuses("run", NoStand, desk)


class RunTest(DeskTest):
    def test_run(self):
        self.answers("run", "waits hi")
        self.answers("run 0", "waits hi")
        self.answers("run 00", "slip back.0.0 hi tidy oops")
        self.answers("run 01", "done hi tidy bye")
        self.answers("run 1", "slip front.1.0.1.1 hi a")
        self.answers("run 2", "done hi b bye")
        self.answers("run 5", "done hi b bye")
        self.answers("run 97777777", "done hi tidy bye")

    def test_run_that_says_nothing(self):
        for text, expected in (("{}", "done"), ("slip io", "slip front"), ("again {}", "waits"), ("call front", "long"), ("leave", "done")):
            self.answers("house\n" + HEAD + "front: " + text, "ok")
            self.answers("run", expected)

    def test_run_of_at_most_five_thousand_deeds(self):
        self.answers("house\n" + HEAD + "front: {say a; call front}", "ok")
        # Three deeds a round: the row, the say and the call.
        self.answers("run", "long" + " a" * 1667)
        self.answers("trail", "\n".join(["say front.0 a"] * 1667))

    def test_trail(self):
        self.answers("trail", "say front.0 hi")
        self.answers("trail 00", "\n".join([
            "say front.0 hi", "slip back.0.0", "say back.1 tidy", "kept back back.0.0", "out front.1.0.0 back.0.0", "take front.1 0 back.0.0",
            "say front.1.1.0 oops", "pass front.1.1.1 back.0.0", "end back.0.0"]))
        self.answers("trail 1", "say front.0 hi\nsay front.1.0.1.0 a\nslip front.1.0.1.1\nby front.1 front.1.0.1.1\nend front.1.0.1.1")

    def test_trail_where_nothing_happens(self):
        self.answers("house\n" + HEAD + "front: {}", "ok")
        self.answers("trail", "")
        self.answers("trail 123", "")

    def test_trail_with_lost(self):
        self.answers("house\n" + HEAD + "front: clean slip io with leave", "ok")
        self.answers("trail", "slip front.0\nlost front front.0")

    def test_rows_that_are_none(self):
        for word in ("run", "trail"):
            for rest in (" ", "  ", " 1 ", "  1", " 1 2", " x", " 1x", " -1", " +1", " 1.0", "1", "\n", " 1\n", " 1\n2", " front", " ;", " ''"):
                self.refuses(word + rest, NoRow)
        for row in ("", " ", "\n", " run", "Run", "RUN 1", "runs", "ru", "1", "run\t1", "walk", "say hi", ";", "ok", "done"):
            self.refuses(row, NoRow)
        self.changes_nothing()


class MeetTest(DeskTest):
    def test_comes(self):
        self.answers("meet slip back.0.0", "comes 8 00")
        self.answers("meet slip back.0.1", "comes 8 01")
        self.answers("meet kept back back.0.0", "comes 9 00")
        self.answers("meet out front.1.0.0 back.0.1", "comes 9 01")
        self.answers("meet take front.1 0 back.0.0", "comes 9 00")
        self.answers("meet take front.1 1 back.0.1", "comes 9 01")
        self.answers("meet pass front.1.1.1 back.0.0", "comes 12 00")
        self.answers("meet by front.1 front.1.0.1.1", "comes 7 1")
        self.answers("meet end front.1.0.1.1", "comes 7 1")
        self.answers("meet end back.0.0", "comes 12 00")

    def test_no_choices_and_no_blank(self):
        self.answers("house\n" + HEAD + "front: slip io", "ok")
        self.answers("meet slip front", "comes 1")
        self.answers("meet end front", "comes 1")

    def test_never(self):
        for words in ("slip side.1", "end side.1", "take front.1 1 back.0.0", "take front.1 0 side.1", "by front.1 back.0.0", "lost back back.0.0",
                      "pass front.1.1.1 back.0.1", "out front.1.0.0 side.1", "kept back front.1.0.1.1", "end back.0.1"):
            self.answers("meet " + words, "never")

    def test_no_meets(self):
        for words in ("slip front", "slip none", "slip none.0", "slip back.0.5", "slip back.9", "end front", "end none", "take front.1 2 back.0.0",
                      "take front.1 9 back.0.0", "take front 0 back.0.0", "take none 0 back.0.0", "by front.1 front.1", "by back back.0.0",
                      "kept front back.0.0", "lost none back.0.0", "pass front.1.1.1 none", "out front.1.0.0 none.1", "out back back.0.0"):
            self.refuses("meet " + words, NoMeet)

    def test_rows_that_are_none(self):
        for words in ("", " ", "slip", "slip ", " slip back.0.0", "slip  back.0.0", "slip back.0.0 ", "slip back.0.0 back.0.0", "end", "end back.0.0 x",
                      "say front.0 hi", "say front.0", "say", "take front.1 back.0.0", "take front.1 0", "take front.1 0 back.0.0 0",
                      "take front.1 00 back.0.0", "take front.1 10 back.0.0", "take front.1 x back.0.0", "take front.1 -1 back.0.0", "take 0 front.1 back.0.0",
                      "by front.1", "by front.1 0 back.0.0", "kept back", "lost", "pass front.1.1.1", "out front.1.0.0", "out front.1.0.0 0 back.0.0",
                      "slip back.00", "slip back.10", "slip back.", "slip .back", "slip back..0", "slip .0", "slip 0", "slip back.x", "slip back.0.-1",
                      "slip Back.0", "slip back0", "slip back-0", "slip abcdefghi.0", "slip back.0.0\n", "slip\nback.0.0", "none back.0.0", "Slip back.0.0",
                      "slip back,0", "front", "comes 8"):
            self.refuses("meet " + words, NoRow)
        self.refuses("meet", NoRow)
        self.changes_nothing()

    def test_too_far(self):
        self.desk = desk_with(far_house(10))
        self.answers("meet slip front.3", "comes 3000")
        self.desk = desk_with(far_house(11))
        self.assertEqual(self.refuses("meet slip front.3", TooFar).many, 3001)
        self.desk = desk_with(very_far_house())
        self.refuses("meet end front.1", TooFar)


class ListsTest(DeskTest):
    def test_out(self):
        self.answers("out front", "front.1.0.1.1 back.0.0")
        self.answers("out back", "back.0.0 back.0.1")
        self.answers("out side", "")

    def test_out_of_no_room(self):
        for room in ("none", "lit", "io", "fron", "abcdefgh"):
            self.refuses("out " + room, NoRoom)
        for rest in ("", " ", " front ", "  front", " front back", " Front", " front.0", " 0", " abcdefghi", " front\n", "front"):
            self.refuses("out" + rest, NoRow)

    def test_lists(self):
        self.answers("lists", "front: disk odd\nback: io\nside:")
        self.answers("house\n" + HEAD + "front: {}", "ok")
        self.answers("lists", "front:")

    def test_idle(self):
        self.answers("idle", "side side.0 side.1")
        self.answers("house\n" + HEAD + "front: {}", "ok")
        self.answers("idle", "")

    def test_prune(self):
        self.answers("out side", "")
        self.answers("prune", "ok")
        self.answers("idle", "side")
        self.answers("run 2", "done hi b bye")
        self.refuses("meet slip side.1", NoMeet)
        self.answers("prune", "ok")
        self.answers("idle", "side")
        # A house told anew is what is asked from then on.
        self.answers("house\n" + STORE, "ok")
        self.answers("idle", "side side.0 side.1")
        self.answers("meet slip side.1", "never")

    def test_flat(self):
        before = [len(room[1]) for room in made_flat(house_of(*STORE.split("\n")[2:]))[2]]
        self.answers("flat", " ".join(str(many) for many in before))
        self.answers("house\n" + HEAD + "front: {}", "ok")
        self.answers("flat", str(len(made_flat(house_of("{}"))[2][0][1])))

    def test_nothing_stands_behind_these(self):
        for word in ("lists", "idle", "prune", "flat"):
            for rest in (" ", " 0", " front", "\n", " \n", "s", "  "):
                self.refuses(word + rest, NoRow)
        self.refuses("list", NoRow)
        self.changes_nothing()


class WatchTest(DeskTest):
    def test_keeps(self):
        self.answers("watch one ; ; one ; one", "keeps")
        self.answers("watch shut ajar ; shut hi ajar ; ajar ; ajar", "keeps")
        self.answers("watch shut ajar ; shut hi ajar ajar bye shut ; shut ; ajar", "keeps")
        self.answers("watch aa bb cc dd ; aa hi bb bb tidy cc cc bye dd bb bye dd ; dd ; bb cc", "keeps")

    def test_breaks(self):
        self.answers("watch one ; ; ; one", "breaks 2")
        self.answers("watch one ; ; one ;", "breaks 1")
        # By done behind six deeds, by a slip behind seven.
        self.answers("watch one ; ; ;", "breaks 2")
        self.answers("watch shut ajar ; shut tidy ajar ; shut ; shut ajar", "breaks 01")
        self.answers("watch shut ajar ; shut oops ajar ; shut ajar ; shut", "breaks 00")

    def test_breaks_without_choices(self):
        self.answers("house\n" + HEAD + "front: say hi", "ok")
        self.answers("watch one ; ; ; one", "breaks")
        self.answers("watch one ; ; one ;", "keeps")
        self.answers("watch one two ; one hi two ; one ;", "breaks")

    def test_too_far(self):
        self.desk = desk_with(far_house(11))
        self.assertEqual(self.refuses("watch one ; ; ;", TooFar).many, 3001)
        self.answers("watch one ; ; ; one", "keeps")

    def test_rows_that_are_none(self):
        good = "watch one two ; one hi two ; one ; two"
        self.desk.say(good)
        for row in ("watch", "watch ", "watch one", "watch one ;", "watch one ; ;", "watch one ; ; one ; one ;", "watch one ; ; one ; one ; one",
                    "watch ; ; ;", "watch ; ; one ; one", "watch one two three four five ; ; ;", "watch one one ; ; ;", "watch One ; ; ;",
                    "watch abcdefghi ; ; ;", "watch one2 ; ; ;", "watch one ; one ; ;", "watch one ; one hi ; ;", "watch one ; one hi one one ; ;",
                    "watch one ; two hi one ; ;", "watch one ; one hi two ; ;", "watch one ; one Hi one ; ;", "watch one ; one abcdefghi one ; ;",
                    "watch one ; one hi one one hi one ; ;", "watch one two ; one hi one one hi two ; ;", "watch one ; ; two ;", "watch one ; ; one one ;",
                    "watch one ; ; ; two", "watch one ; ; ; one one", "watch one; ; ;", "watch one ;; ;", "watch one  ; ; ;", "watch  one ; ; ;",
                    "watch one ; ; ; ", "watch one ;  ; ;", "watch one ; ; ;\n", "watch\none ; ; ;", " " + good, good + " ", good + "\n", "watch one , , ,",
                    "Watch one ; ; ;", "watch one ; one hi one, ; ;"):
            self.refuses(row, NoRow)
        self.changes_nothing()


class OrderTest(DeskTest):
    def test_no_row_goes_ahead_of_no_stand(self):
        desk = Desk()
        for row in ("", "run ", "trail x", "meet", "meet say front hi", "meet end", "out", "out Front", "lists 1", "idle ", "prune now", "flat 0", "watch one",
                    "watch one ; ; two ;", "watch one ; one hi one one hi one ; ;", "house", "none"):
            self.refuses(row, NoRow, desk)

    def test_no_stand_goes_ahead_of_all_others(self):
        desk = Desk()
        for row in ("run", "run 01", "trail", "trail 5", "meet end front", "meet slip none.7", "meet take front 9 none", "out front", "out none",
                    "lists", "idle", "prune", "flat", "watch one ; ; ;"):
            self.refuses(row, NoStand, desk)

    def test_a_house_needs_none_ahead_of_it(self):
        desk = Desk()
        self.refuses("house\n", NoText, desk)
        self.assertEqual(desk.say("house\n" + STORE), "ok")
        self.assertEqual(desk.say("run 2"), "done hi b bye")

    def test_no_meet_goes_ahead_of_too_far(self):
        self.refuses("meet slip front", NoMeet, desk_with(far_house(11)))

    def test_two_desks_know_nothing_of_one_another(self):
        first, second = Desk(), Desk()
        first.say("house\n" + STORE)
        self.refuses("run", NoStand, second)
        second.say("house\n" + HEAD + "front: say other")
        self.assertEqual(first.say("run 2"), "done hi b bye")
        self.assertEqual(second.say("run 2"), "done other")
        first.say("prune")
        third = desk_with(STORE)
        self.assertEqual(third.say("idle"), "side side.0 side.1")

    def test_what_was_asked_ahead_changes_no_answer(self):
        rows = ["run 00", "trail 01", "meet end back.0.0", "meet end back.0.1", "out front", "lists", "idle", "flat", "watch one ; ; ; one"]
        first = [self.desk.say(row) for row in rows]
        for row in rows[::-1]:
            self.desk.say(row)
        for row in ("nonsense", "out none", "meet end none"):
            with self.assertRaises(errors.SlipError):
                self.desk.say(row)
        self.assertEqual([self.desk.say(row) for row in rows], first)


class WholeTest(DeskTest):
    def test_what_the_stages_tell(self):
        chance = random.Random(231)
        for step in range(12):
            house = lively_house(chance, 24)
            self.desk = desk_with(house)
            for turn in range(4):
                choices = [chance.randrange(10) for number in range(chance.randrange(8))]
                trail, end, many = run(house, choices, 5000)
                words = [thing[2] for thing in trail if thing[0] == "say"]
                self.answers("run" + figures(choices), " ".join([line_of(end)] + words))
                self.answers("trail" + figures(choices), "\n".join(line_of(thing) for thing in trail))
            for meet in meets_of(house)[::5]:
                told = shown(house, meet)
                expected = "never" if told[0] == "never" else "comes " + str(told[1]) + figures(told[2])
                self.answers("meet " + line_of(meet), expected)
            out = comes_out(house)
            for room in out:
                self.answers("out " + room, " ".join(dotted(slip) for slip in out[room]))
            self.answers("lists", "\n".join(" ".join([room + ":"] + listed) for room, listed in lowest_lists(house).items()))
            self.answers("idle", " ".join(dotted(place) for place in idle_places(house)))
            watcher = random_watcher(chance)
            moves = " ".join(" ".join(asked + (state,)) for asked, state in watcher[1].items())
            told = watched(house, watcher)
            row = " ; ".join(" ".join(part) for part in (watcher[0], moves.split(), watcher[2], watcher[3]))
            row = " ".join(("watch " + row).split())
            self.answers(row, "keeps" if told[0] == "keeps" else "breaks" + figures(told[2]))
            self.answers("prune", "ok")
            self.answers("idle", " ".join(dotted(place) for place in idle_places(pruned(house))))
            self.answers("flat", " ".join(str(len(room[1])) for room in made_flat(pruned(house))[2]))

    def test_every_place_of_a_trail_is_one_that_a_meet_takes(self):
        for line in self.desk.say("trail 00").split("\n"):
            if not line.startswith("say "):
                self.assertTrue(self.desk.say("meet " + line).startswith("comes "))
        self.assertIn(("side", 1), places_of(house_of(*STORE.split("\n")[2:])))


if __name__ == "__main__":
    unittest.main()
