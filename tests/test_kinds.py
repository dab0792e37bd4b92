"""Point 5: what stands under what, and the nearest kind over a list."""

import itertools
import random
import unittest

from slipcatch.kinds import is_under, nearest_over, overs_of
from tests.samples import KINDS

# The most kinds that there may be, all one under another.
CHAIN = (("a", ""), ("b", "a"), ("c", "b"), ("d", "c"), ("e", "d"), ("f", "e"), ("g", "f"), ("h", "g"))


def random_kinds(chance):
    names = chance.sample("abcdefgh", chance.randint(1, 8))
    return tuple((name, chance.choice([""] + names[:at])) for at, name in enumerate(names))


def unders(kinds):
    """All (kind, over) with the first under the second, by going on till nothing is new."""
    found = {(name, name) for name, over in kinds}
    while True:
        more = {(name, over) for name, middle in found for lower, over in kinds if lower == middle and over != ""}
        if more <= found:
            return found
        found |= more


class OversTest(unittest.TestCase):
    def test_from_itself_upwards(self):
        self.assertEqual(overs_of(KINDS, "disk"), ["disk", "io", "any"])
        self.assertEqual(overs_of(KINDS, "io"), ["io", "any"])

    def test_a_kind_under_none_is_told_alone(self):
        self.assertEqual(overs_of(KINDS, "any"), ["any"])
        self.assertEqual(overs_of(KINDS, "odd"), ["odd"])
        self.assertEqual(overs_of((("one", ""),), "one"), ["one"])

    def test_eight_kinds_one_under_another(self):
        self.assertEqual(overs_of(CHAIN, "h"), list("hgfedcba"))
        self.assertEqual(overs_of(CHAIN, "a"), ["a"])

    def test_a_name_that_is_the_end_of_another_one_is_another_one(self):
        kinds = (("o", ""), ("io", ""), ("bio", "io"))
        self.assertEqual(overs_of(kinds, "bio"), ["bio", "io"])

    def test_the_list_is_the_askers_own(self):
        told = overs_of(KINDS, "disk")
        told.append("more")
        told[0] = "other"
        self.assertEqual(overs_of(KINDS, "disk"), ["disk", "io", "any"])
        self.assertEqual(nearest_over(KINDS, ["disk", "net"]), "io")

    def test_it_is_a_list(self):
        self.assertIs(overs_of(KINDS, "disk").__class__, list)


class UnderTest(unittest.TestCase):
    def test_a_kind_is_under_itself(self):
        for name, over in KINDS + CHAIN:
            self.assertIs(is_under(KINDS if (name, over) in KINDS else CHAIN, name, name), True)

    def test_under_all_that_its_over_is_under(self):
        self.assertIs(is_under(KINDS, "disk", "io"), True)
        self.assertIs(is_under(KINDS, "disk", "any"), True)
        self.assertIs(is_under(CHAIN, "h", "a"), True)

    def test_not_under_what_stands_below_or_aside(self):
        self.assertIs(is_under(KINDS, "io", "disk"), False)
        self.assertIs(is_under(KINDS, "disk", "net"), False)
        self.assertIs(is_under(KINDS, "disk", "odd"), False)
        self.assertIs(is_under(KINDS, "odd", "any"), False)

    def test_against_the_closure(self):
        chance = random.Random(5)
        for step in range(200):
            kinds = random_kinds(chance)
            found = unders(kinds)
            names = [name for name, over in kinds]
            for name, over in itertools.product(names, names):
                self.assertIs(is_under(kinds, name, over), (name, over) in found, (kinds, name, over))
                self.assertEqual(over in overs_of(kinds, name), (name, over) in found)


class NearestTest(unittest.TestCase):
    def test_of_one_kind_it_is_that_kind(self):
        self.assertEqual(nearest_over(KINDS, ["disk"]), "disk")
        self.assertEqual(nearest_over(KINDS, ["disk", "disk"]), "disk")

    def test_the_lowest_one_over_all(self):
        self.assertEqual(nearest_over(KINDS, ["disk", "net"]), "io")
        self.assertEqual(nearest_over(KINDS, ["net", "disk", "any"]), "any")
        self.assertEqual(nearest_over(CHAIN, ["h", "c", "f"]), "c")

    def test_one_of_the_list_may_be_the_nearest(self):
        self.assertEqual(nearest_over(KINDS, ["io", "disk"]), "io")
        self.assertEqual(nearest_over(KINDS, ["disk", "io"]), "io")

    def test_where_there_is_none(self):
        self.assertEqual(nearest_over(KINDS, ["disk", "odd"]), "")
        self.assertEqual(nearest_over(KINDS, ["odd", "any"]), "")

    def test_against_the_closure(self):
        chance = random.Random(6)
        for step in range(300):
            kinds = random_kinds(chance)
            found = unders(kinds)
            names = [chance.choice(kinds)[0] for step in range(chance.randint(1, 4))]
            over_all = [over for over, upper in kinds if all((name, over) in found for name in names)]
            lowest = [low for low in over_all if all((low, over) in found for over in over_all)]
            self.assertEqual([nearest_over(kinds, names)], lowest or [""], (kinds, names))

    def test_what_is_handed_in_is_not_changed(self):
        names = ["disk", "net"]
        nearest_over(KINDS, names)
        self.assertEqual(names, ["disk", "net"])


if __name__ == "__main__":
    unittest.main()
