"""Point 9: how a house is written, how a text is read, and what is refused."""

import random
import unittest

from slipcatch.errors import NoHouse, NoText
from slipcatch.houses import why_no_house
from slipcatch.texts import read_house, show_house
from tests.samples import EMPTY, HEAD, HOUSE, HOUSE_TEXT, KINDS, MARKS, SAY, nested, one_room, random_house

AGAIN = ("again", SAY)
WHEN = ("when", "lit", SAY, SAY)
CLEAN = ("clean", SAY, SAY)
CATCH = ("catch", SAY, ("odd", SAY))

# Each stands in the front room of a house with KINDS and MARKS.
WRITTEN = (
    (SAY, "say hi"),
    (("slip", "odd"), "slip odd"),
    (("leave",), "leave"),
    (("on", "lit"), "on lit"),
    (("off", "warm"), "off warm"),
    (("call", "front"), "call front"),
    (EMPTY, "{}"),
    (("row", SAY), "{say hi}"),
    (("row", SAY, ("leave",)), "{say hi; leave}"),
    (("row", SAY, EMPTY, ("row", EMPTY), SAY), "{say hi; {}; {{}}; say hi}"),
    (("pick", SAY, EMPTY), "pick {say hi | {}}"),
    (("pick", SAY, ("pick", SAY, SAY), ("row", SAY, SAY)), "pick {say hi | pick {say hi | say hi} | {say hi; say hi}}"),
    (AGAIN, "again say hi"),
    (("again", ("stop",)), "again stop"),
    (("again", ("row", ("stop",), SAY)), "again {stop; say hi}"),
    (("again", ("pick", SAY, SAY)), "again pick {say hi | say hi}"),
    (WHEN, "when lit say hi else say hi"),
    (("when", "lit", EMPTY, ("leave",)), "when lit {} else leave"),
    (CLEAN, "clean say hi with say hi"),
    (("clean", ("leave",), EMPTY), "clean leave with {}"),
    (CATCH, "catch say hi of odd say hi"),
    (("catch", SAY, ("io", ("pass",)), ("any", EMPTY), ("odd", SAY)), "catch say hi of io pass of any {} of odd say hi"),
    (("again", AGAIN), "again (again say hi)"),
    (("again", CLEAN), "again (clean say hi with say hi)"),
    (("again", WHEN), "again (when lit say hi else say hi)"),
    (("again", CATCH), "again (catch say hi of odd say hi)"),
    (("when", "lit", AGAIN, SAY), "when lit (again say hi) else say hi"),
    (("when", "lit", SAY, WHEN), "when lit say hi else (when lit say hi else say hi)"),
    (("clean", CLEAN, AGAIN), "clean (clean say hi with say hi) with (again say hi)"),
    (("clean", SAY, CATCH), "clean say hi with (catch say hi of odd say hi)"),
    (("catch", CATCH, ("io", CATCH)), "catch (catch say hi of odd say hi) of io (catch say hi of odd say hi)"),
    (("catch", AGAIN, ("io", WHEN), ("any", CLEAN)),
     "catch (again say hi) of io (when lit say hi else say hi) of any (clean say hi with say hi)"),
    (("row", AGAIN, WHEN), "{again say hi; when lit say hi else say hi}"),
    (("row", ("row", CLEAN), CATCH), "{{clean say hi with say hi}; catch say hi of odd say hi}"),
    (("pick", AGAIN, CATCH), "pick {again say hi | catch say hi of odd say hi}"),
    (("again", ("row", AGAIN)), "again {again say hi}"),
    (("again", ("again", ("again", ("stop",)))), "again (again (again stop))"),
    (("say", "say"), "say say"),
    (("row", ("say", "else"), ("say", "of")), "{say else; say of}"),
    (("when", "lit", ("say", "else"), ("say", "else")), "when lit say else else say else"),
    (("clean", ("say", "with"), ("say", "with")), "clean say with with say with"),
    (("catch", ("say", "of"), ("odd", ("say", "of"))), "catch say of of odd say of"),
)


class TextTest(unittest.TestCase):
    def no_text(self, text):
        with self.assertRaises(NoText, msg=repr(text)):
            read_house(text)

    def no_deed(self, text):
        self.no_text(HEAD + "front: " + text)

    def no_house(self, text, fault):
        with self.assertRaises(NoHouse, msg=repr(text)) as caught:
            read_house(text)
        self.assertEqual(caught.exception.fault, fault, text)


class ShowTest(TextTest):
    def test_the_whole(self):
        self.assertEqual(show_house(HOUSE), HOUSE_TEXT)

    def test_each_deed(self):
        for deed, text in WRITTEN:
            self.assertIsNone(why_no_house(one_room(deed)), deed)
            self.assertEqual(show_house(one_room(deed)), HEAD + "front: " + text)

    def test_no_marks_and_one_kind(self):
        house = ((("a", ""),), (), (("b", SAY),))
        self.assertEqual(show_house(house), "kinds a\nmarks\nb: say hi")

    def test_the_most_rooms(self):
        rooms = tuple((name, EMPTY) for name in "abcde")
        self.assertEqual(show_house((KINDS, MARKS, rooms)), HEAD + "a: {}\nb: {}\nc: {}\nd: {}\ne: {}")


class ReadTest(TextTest):
    def test_the_whole(self):
        self.assertEqual(read_house(HOUSE_TEXT), HOUSE)

    def test_each_deed(self):
        for deed, text in WRITTEN:
            self.assertEqual(read_house(HEAD + "front: " + text), one_room(deed))

    def test_tuples_are_tuples_all_through(self):
        def look(thing):
            self.assertIn(thing.__class__, (tuple, str))
            for part in thing if isinstance(thing, tuple) else ():
                look(part)

        look(read_house(HOUSE_TEXT))

    def test_rooms_and_words_with_names_of_the_language(self):
        text = "kinds kinds marks/kinds\nmarks of else\nkinds: when else on of else off else\nmarks: call kinds"
        house = (
            (("kinds", ""), ("marks", "kinds")),
            ("of", "else"),
            (("kinds", ("when", "else", ("on", "of"), ("off", "else"))), ("marks", ("call", "kinds"))),
        )
        self.assertEqual(read_house(text), house)
        self.assertEqual(show_house(house), text)

    def test_written_and_read_again_at_random(self):
        chance = random.Random(9)
        seen = set()
        for step in range(2000):
            house = random_house(chance, chance.randint(0, 4))
            fault = why_no_house(house)
            seen.add(fault)
            if fault is None:
                self.assertEqual(read_house(show_house(house)), house)
            else:
                self.no_house(show_house(house), fault)
        self.assertEqual(seen, {None, "names", "pass", "stop", "great"})

    def test_a_text_that_is_read_is_written_so_again(self):
        chance = random.Random(10)
        signs = " abz;|{}()/:\n"
        read = 0
        for step in range(4000):
            at = chance.randrange(len(HOUSE_TEXT))
            text = HOUSE_TEXT[:at] + chance.choice(("", chance.choice(signs))) + HOUSE_TEXT[at + chance.randint(0, 1):]
            try:
                house = read_house(text)
            except NoText:
                continue
            except NoHouse as refusal:
                self.assertIn(refusal.fault, ("names", "pass", "stop", "great"))
                continue
            self.assertEqual(show_house(house), text)
            read += 1
        self.assertGreater(read, 100)


class NoTextTest(TextTest):
    def test_nothing_and_lines_that_are_missing(self):
        for text in ("", "\n", "\n\n", " ", "kinds", "kinds a", "kinds a\nmarks", "kinds a\nmarks\n", "front: say a",
                     "marks\nkinds a\nfront: say a", "kinds a\nfront: say a", "marks\nfront: say a",
                     "kinds a\n\nmarks\nfront: say a"):
            self.no_text(text)

    def test_line_ends(self):
        self.no_text(HOUSE_TEXT + "\n")
        self.no_text("\n" + HOUSE_TEXT)
        self.no_text(HOUSE_TEXT.replace("\n", "\n\n"))
        self.no_text(HOUSE_TEXT.replace("\n", " "))
        self.no_text(HEAD + "front: {say a;\nsay b}")

    def test_lines_of_kinds(self):
        for line in ("kinds", "kinds ", "kinds  a", "kinds a ", " kinds a", "kind a", "kindsa", "kinds a/", "kinds /a",
                     "kinds a/a/a", "kinds a b//a", "kinds a b /a", "kinds a b/ a", "kinds A", "kinds a1", "kinds abcdefghi",
                     "kinds a b/abcdefghi", "kinds a, b", "kinds: a", "kinds a b c d e f g h i"):
            self.no_text(line + "\nmarks\nfront: {}")
        read_house("kinds a b c d e f g h\nmarks\nfront: {}")
        read_house("kinds abcdefgh b/abcdefgh\nmarks\nfront: {}")

    def test_lines_of_marks(self):
        for line in ("", "marks ", "marks  a", "marks a ", " marks", "mark", "marksa", "marks a b c", "marks a/b", "marks B",
                     "marks abcdefghi", "marks:"):
            self.no_text("kinds a\n" + line + "\nfront: {}")
        read_house("kinds a\nmarks abcdefgh b\nfront: {}")

    def test_lines_of_rooms(self):
        for line in ("", "front", "front:", "front: ", "front:{}", "front : {}", "front:  {}", " front: {}", "front: {} ",
                     ": {}", "Front: {}", "fr0nt: {}", "abcdefghi: {}", "front {}", "{}", "front: {}\n", "a: {} b: {}",
                     "front: front: {}"):
            self.no_text(HEAD + line)
        read_house(HEAD + "abcdefgh: {}")

    def test_how_many_rooms(self):
        rooms = ["a: {}", "b: {}", "c: {}", "d: {}", "e: {}"]
        read_house(HEAD + "\n".join(rooms))
        self.no_text(HEAD + "\n".join(rooms + ["f: {}"]))

    def test_words(self):
        for deed in ("say", "say ", "say  hi", "say Hi", "say hi1", "say abcdefghi", "say hi ", " say hi", "sayhi", "say hi hi",
                     "say 'hi'", "say {}", "say \u00e9", "slip", "slip ", "on", "off ", "call", "pass odd", "leave ", "stop hi",
                     "row", "row {}", "nothing", "nothing hi", "Say hi", "hi", "-", "pass;", "again", "again "):
            self.no_deed(deed)
        read_house(HEAD + "front: say abcdefgh")

    def test_rows(self):
        for deed in ("{ }", "{", "}", "{}}", "{{}", "{ say hi}", "{say hi }", "{say hi;}", "{say hi; }", "{;}", "{; say hi}",
                     "{say hi;say hi}", "{say hi ; say hi}", "{say hi;  say hi}", "{say hi say hi}", "{say hi | say hi}",
                     "{say hi, say hi}", "{(say hi)}", "{(again say hi)}", "({})", "(say hi)", "(again say hi)", "say hi; say hi",
                     "{say hi; say hi; say hi; say hi; say hi}", "{say hi;; say hi}", "[say hi]"):
            self.no_deed(deed)
        read_house(HEAD + "front: {say hi; say hi; say hi; say hi}")

    def test_picks(self):
        for deed in ("pick", "pick ", "pick {}", "pick {say hi}", "pick{say hi | say hi}", "pick  {say hi | say hi}",
                     "pick { say hi | say hi}", "pick {say hi | say hi }", "pick {say hi|say hi}", "pick {say hi |say hi}",
                     "pick {say hi| say hi}", "pick {say hi  | say hi}", "pick {say hi; say hi}", "pick {say hi | }",
                     "pick {| say hi}", "pick say hi", "pick (say hi | say hi)", "pick {say hi | say hi | say hi | say hi}",
                     "pick {say hi | (again say hi)}", "say hi | say hi"):
            self.no_deed(deed)

    def test_agains_and_whens(self):
        for deed in ("again (say hi)", "again ({})", "again again say hi", "again  say hi", "again ( again say hi)",
                     "again (again say hi )", "again (again say hi", "again ((again say hi))", "again(again say hi)",
                     "again say hi say hi", "again (again say hi))", "again clean say hi with say hi", "again (pick {{} | {}})",
                     "when", "when lit", "when lit say hi", "when lit say hi else", "when lit say hi else ",
                     "when lit say hi say hi", "when lit else say hi", "when say hi else say hi", "when lit say hi  else say hi",
                     "when lit say hi else  say hi", "when  say hi else say hi", "when lit  say hi else say hi",
                     "when lit (say hi) else say hi", "when lit say hi else again say hi", "when lit say hi with say hi",
                     "when abcdefghi say hi else say hi", "when lit {}else {}", "when lit {} else{}"):
            self.no_deed(deed)

    def test_cleans_and_catches(self):
        for deed in ("clean", "clean say hi", "clean say hi with", "clean say hi with ", "clean with say hi",
                     "clean say hi else say hi", "clean (say hi) with say hi", "clean say hi with (say hi)",
                     "clean clean say hi with say hi with say hi", "clean say hi  with say hi", "clean {}with {}",
                     "catch", "catch say hi", "catch say hi of", "catch say hi of odd", "catch say hi of odd ",
                     "catch say hi of  say hi", "catch of odd say hi", "catch say hi of odd (say hi)", "catch say hi of abcdefghi {}",
                     "catch say hi of odd again say hi", "catch catch say hi of odd say hi of odd say hi",
                     "catch say hi of odd say hi of", "catch say hi  of odd say hi", "catch say hi of odd  say hi",
                     "catch say hi of odd {} of odd {} of odd {} of odd {}", "catch say hi of (odd say hi)",
                     "catch say hi of odd/any {}", "catch {}of odd {}"):
            self.no_deed(deed)
        read_house(HEAD + "front: catch say hi of odd {} of odd {} of odd {}")

    def test_no_text_goes_ahead_of_no_house(self):
        self.no_text("kinds a a\nmarks\nfront: {pass; say}")
        self.no_text("kinds a/b\nmarks b b\nfront: {pass;stop}")
        self.no_text("kinds a a\nmarks\nfront: pass\nback: {} ")


class DeepTest(TextTest):
    def test_within_forty_others_and_one_more(self):
        for many, fault in ((12, None), (13, "great"), (40, "great"), (41, None)):
            for deed, text in (
                (nested(SAY, many), "{" * many + "say hi" + "}" * many),
                (nested(EMPTY, many), "{" * many + "{}" + "}" * many),
                (nested(SAY, many, "again"), "again (" * (many - 1) + "again say hi" + ")" * (many - 1)),
            ):
                text = HEAD + "front: " + text
                self.assertEqual(show_house(one_room(deed)), text)
                if many > 40:
                    self.no_text(text)
                elif fault is None:
                    self.assertEqual(read_house(text), one_room(deed))
                else:
                    self.no_house(text, fault)

    def test_by_picks(self):
        self.no_house(HEAD + "front: " + "pick {{} | " * 40 + "{}" + "}" * 40, "great")
        self.no_text(HEAD + "front: " + "pick {{} | " * 41 + "{}" + "}" * 41)

    def test_by_takers_and_cleans(self):
        for many in (40, 41):
            for head in ("catch {} of odd ", "clean {} with "):
                text = HEAD + "front: " + (head + "(") * (many - 1) + head + "{}" + ")" * (many - 1)
                if many > 40:
                    self.no_text(text)
                else:
                    self.no_house(text, "great")

    def test_too_deep_goes_ahead_of_all_that_no_house_tells(self):
        self.no_text("kinds a a\nmarks\nfront: " + "{" * 41 + "pass" + "}" * 41)
        self.no_house("kinds a a\nmarks\nfront: " + "{" * 40 + "pass" + "}" * 40, "names")

    def test_as_long_as_a_text_may_be(self):
        room = 20000 - len(HEAD + "front: ")
        self.no_deed("{" * room)
        self.no_deed("{" * (room // 2) + "}" * (room // 2))
        self.no_deed("(" * room)
        self.no_deed("again (" * (room // 7))
        self.no_deed("catch " * (room // 6))
        self.no_deed("a" * room)
        self.no_deed("{" + "say a; " * (room // 7 - 1) + "say a}")
        self.no_text("\n" * 20000)
        self.no_text(" " * 20000)
        self.no_text("kinds" + " a" * 9997)


class NoHouseTest(TextTest):
    def test_names(self):
        for text in ("kinds a a\nmarks\nfront: {}", "kinds a/b\nmarks\nfront: {}", "kinds a/b b\nmarks\nfront: {}",
                     "kinds a/a\nmarks\nfront: {}", "kinds a\nmarks b b\nfront: {}", "kinds a\nmarks\nb: {}\nb: {}",
                     "kinds a\nmarks\nfront: slip b", "kinds a\nmarks\nfront: on b", "kinds a\nmarks\nfront: call back",
                     "kinds a\nmarks\nfront: catch {} of b {}", "kinds a\nmarks\nfront: when b {} else {}"):
            self.no_house(text, "names")

    def test_pass_and_stop(self):
        self.no_house(HEAD + "front: pass", "pass")
        self.no_house(HEAD + "front: catch pass of odd {}", "pass")
        self.no_house(HEAD + "front: {stop; pass}", "pass")
        self.no_house(HEAD + "front: stop", "stop")
        self.no_house(HEAD + "front: {again stop; stop}", "stop")

    def test_great(self):
        self.no_house(HEAD + "front: clean {} with (clean {} with {})", "great")
        four = "{say a; say a; say a; say a}"
        row = "{" + "; ".join([four] * 2) + "}"
        self.no_house(HEAD + "\n".join(name + ": " + row for name in "abcde"), "great")
        slips = "{slip odd; slip odd; slip odd; slip odd}"
        read_house(HEAD + "a: " + slips + "\nb: " + slips)
        self.no_house(HEAD + "a: " + slips + "\nb: " + slips + "\nc: slip odd", "great")

    def test_the_first_that_is_due(self):
        self.no_house("kinds a a\nmarks\nfront: {pass; stop; clean {} with (clean {} with {})}", "names")
        self.no_house(HEAD + "front: {clean {} with (clean {} with {}); stop; pass}", "pass")
        self.no_house(HEAD + "front: {clean {} with (clean {} with {}); stop}", "stop")


if __name__ == "__main__":
    unittest.main()
