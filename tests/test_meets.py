"""Point 11: the meets of a house, and of anything whether it is one."""

import copy
import random
import unittest

from slipcatch.houses import deed_at, places_of, slips_of
from slipcatch.meets import is_meet, meets_of
from slipcatch.runs import run
from tests.samples import F, HOUSE, good_house, house_of

A = ("front", 1, 0, 1)
B = ("back", 0)
CLEANING = ("front", 2)
CALL = ("front", 0, 1)
PASS = ("front", 2, 0)
MEETS = [
    ("slip", A), ("slip", B),
    ("pass", PASS, A), ("pass", PASS, B),
    ("take", F, 0, A), ("take", F, 0, B), ("take", F, 1, A), ("take", F, 1, B),
    ("by", F, A), ("by", F, B),
    ("kept", CLEANING, A), ("kept", CLEANING, B), ("lost", CLEANING, A), ("lost", CLEANING, B),
    ("out", CALL, A), ("out", CALL, B),
    ("end", A), ("end", B),
]


class MeetsTest(unittest.TestCase):
    def test_all_of_a_house(self):
        self.assertEqual(sorted(meets_of(HOUSE), key=repr), sorted(MEETS, key=repr))

    def test_each_sort_by_itself(self):
        slip = ("front", 0)
        for text, place, words in (
            ("say a", ("front", 1), []), ("on lit", ("front", 1), []), ("leave", ("front", 1), []), ("{}", ("front", 1), []),
            ("again stop", ("front", 1), []), ("when lit {} else {}", ("front", 1), []), ("pick {{} | {}}", ("front", 1), []),
            ("call front", ("front", 1), ["out"]), ("clean {} with {}", ("front", 1), ["kept", "lost"]),
        ):
            meets = [("slip", slip), ("end", slip)] + [(word, place, slip) for word in words]
            self.assertEqual(sorted(meets_of(house_of("{slip io; " + text + "}"))), sorted(meets), text)

    def test_as_many_takes_as_takers(self):
        slip = ("front", 0)
        for many in (1, 2, 3):
            house = house_of("catch slip io" + " of odd {}" * many)
            meets = [("slip", slip), ("end", slip), ("by", F, slip)] + [("take", F, number, slip) for number in range(many)]
            self.assertEqual(sorted(meets_of(house), key=repr), sorted(meets, key=repr))

    def test_a_house_without_slips_has_none(self):
        house = house_of("catch (clean call front with {}) of any pass")
        self.assertEqual(meets_of(house), [])
        self.assertFalse(is_meet(house, ("end", ("front",))))

    def test_at_random(self):
        chance = random.Random(20)
        words = {"slip": [("slip",)], "pass": [("pass",)], "clean": [("kept",), ("lost",)], "call": [("out",)]}
        for step in range(200):
            house = good_house(chance, 30)
            slips = slips_of(house)
            expected = [("end", slip) for slip in slips]
            for place in places_of(house):
                deed = deed_at(house, place)
                if deed[0] == "slip":
                    expected.append(("slip", place))
                    continue
                heads = [head + (place,) for head in words.get(deed[0], [])]
                if deed[0] == "catch":
                    heads = [("by", place)] + [("take", place, number) for number in range(len(deed) - 2)]
                expected.extend(head + (slip,) for head in heads for slip in slips)
            meets = meets_of(house)
            self.assertEqual(sorted(meets, key=repr), sorted(expected, key=repr))
            self.assertEqual(len(set(meets)), len(meets))
            for meet in meets:
                self.assertIs(is_meet(house, meet), True)

    def test_what_happens_in_a_run_is_a_meet_but_for_what_is_said(self):
        chance = random.Random(21)
        for step in range(200):
            house = good_house(chance)
            for thing in run(house, [chance.randrange(6) for turn in range(9)], 80)[0]:
                self.assertIs(is_meet(house, thing), thing[0] != "say")

    def test_a_told_list_is_the_askers_own(self):
        told = meets_of(HOUSE)
        kept = list(told)
        told.reverse()
        told.append(("slip", F))
        self.assertEqual(meets_of(HOUSE), kept)
        self.assertFalse(is_meet(HOUSE, ("slip", F)))

    def test_lists_are_lists_and_tuples_tuples(self):
        self.assertIs(meets_of(HOUSE).__class__, list)
        for meet in meets_of(HOUSE):
            self.assertIs(meet.__class__, tuple)
            for part in meet[1:]:
                self.assertIn(part.__class__, (tuple, int))


def turned(thing, old, new):
    """The same with each old in it put otherwise."""
    if isinstance(thing, tuple):
        return tuple(turned(part, old, new) for part in thing)
    return new if thing == old and thing.__class__ is old.__class__ else thing


def with_lists(thing):
    """All things like this one, but for one tuple in it that is a list."""
    yield list(thing)
    for at, part in enumerate(thing):
        if isinstance(part, tuple):
            for other in with_lists(part):
                yield thing[:at] + (other,) + thing[at + 1:]


class IsMeetTest(unittest.TestCase):
    def no_meet(self, thing):
        self.assertIs(is_meet(HOUSE, thing), False, thing)

    def test_each(self):
        for meet in MEETS:
            self.assertIs(is_meet(HOUSE, meet), True, meet)

    def test_other_kinds(self):
        for thing in (None, True, False, 0, 1, -1, "", "slip", "end", (), [], {}, ((),), [()], {"slip": A}, {0: A}, (None,),
                      (True,), ("slip",), ("end",), ("take",), (0, A), (None, A), (("slip",), A), A, F, [A], "slip front"):
            self.no_meet(thing)

    def test_truths_for_numbers(self):
        for meet in MEETS:
            for number, truth in ((0, False), (1, True)):
                thing = turned(meet, number, truth)
                if repr(thing) != repr(meet):
                    self.no_meet(thing)
        self.no_meet(("take", F, False, A))
        self.no_meet(("take", F, True, A))
        self.no_meet(("slip", ("back", False)))

    def test_lists_for_tuples(self):
        for meet in MEETS:
            for thing in with_lists(meet):
                self.no_meet(thing)

    def test_texts_and_nothing_for_numbers(self):
        self.no_meet(("take", F, "0", A))
        self.no_meet(("take", F, None, A))
        self.no_meet(("take", F, (0,), A))
        self.no_meet(("slip", ("back", "0")))
        self.no_meet(("slip", ("back", None)))

    def test_one_part_more_or_less(self):
        for meet in MEETS:
            self.no_meet(meet[:-1])
            self.no_meet(meet[1:])
            for more in (A, 0, None, "", ()):
                self.no_meet(meet + (more,))
                self.no_meet((more,) + meet)
            self.no_meet((meet,))

    def test_takers_numbers(self):
        for number in (-1, 2, 3, 10 ** 30):
            self.no_meet(("take", F, number, B))
        self.no_meet(("take", F, B))
        self.no_meet(("by", F, 0, B))

    def test_places_that_there_are_not(self):
        for place in ((), ("hall",), ("front", 9), ("front", -1), ("back", 0, 0), ("front", 0, 1, 0), "front", None, 0):
            for word in ("slip", "end"):
                self.no_meet((word, place))
            for word in ("pass", "by", "kept", "lost", "out"):
                self.no_meet((word, place, A))
            self.no_meet(("take", place, 0, A))
            self.no_meet(("by", F, place))
            self.no_meet(("out", CALL, place))

    def test_places_of_another_sort(self):
        sorts = {"slip": "slip", "pass": "pass", "take": "catch", "by": "catch", "kept": "clean", "lost": "clean", "out": "call"}
        for word, sort in sorts.items():
            for place in places_of(HOUSE):
                meet = {"slip": (word, place), "take": (word, place, 0, A)}.get(word, (word, place, A))
                self.assertIs(is_meet(HOUSE, meet), deed_at(HOUSE, place)[0] == sort, meet)

    def test_slips_that_are_none(self):
        for slip in (F, CALL, PASS, ("back",), ("back", 1)):
            self.no_meet(("end", slip))
            self.no_meet(("by", F, slip))
            self.no_meet(("take", F, 0, slip))
            self.no_meet(("pass", PASS, slip))

    def test_other_words(self):
        self.no_meet(("say", ("front", 0, 2, 0), "hi"))
        for word in ("", "Slip", "slips", "catch", "clean", "call", "passed", "ends"):
            for meet in MEETS:
                self.no_meet((word,) + meet[1:])

    def test_a_hundred_within_one_another_and_ten_thousand_in_all(self):
        deep, deeper = (), []
        for step in range(98):
            deep, deeper = (deep,), [deeper]
        for thing in (deep, deeper, (0,) * 9999, [0] * 9999, ("a",) * 9999, {"a": deeper}):
            self.no_meet(thing)
            self.no_meet(("end", thing))
            self.no_meet(("take", F, thing, A))

    def test_nothing_is_changed(self):
        things = [["slip", A], ("end", [1]), {"end": [A]}]
        kept = copy.deepcopy(things)
        for thing in things:
            self.no_meet(thing)
        self.assertEqual(things, kept)


if __name__ == "__main__":
    unittest.main()
