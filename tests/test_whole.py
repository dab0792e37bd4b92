"""Points 1 to 4: what holds over the whole program."""

import copy
import random
import unittest

from slipcatch.desk import Desk
from slipcatch.flat import is_flat, made_flat
from slipcatch.flatruns import run_flat
from slipcatch.houses import deed_at, kind_of, places_of, slips_of, why_no_house
from slipcatch.idle import idle_places, pruned
from slipcatch.kinds import is_under
from slipcatch.lists import comes_out, hold, lowest_lists
from slipcatch.meets import meets_of
from slipcatch.prices import prices_of
from slipcatch.runs import run
from slipcatch.shows import has_meet, shown
from slipcatch.tables import is_closed, lets, table_of
from slipcatch.texts import read_house, show_house
from slipcatch.watchers import breaks, keeps, watched, watched_prices
from tests.samples import lively_house, random_watcher


def changed(thing):
    """Each list and dict in it is emptied, the innermost ones first."""
    if isinstance(thing, dict):
        for part in list(thing.values()):
            changed(part)
        thing.clear()
    elif isinstance(thing, (list, tuple)):
        for part in thing:
            changed(part)
        if isinstance(thing, list):
            thing.clear()


class WholeTest(unittest.TestCase):
    def setUp(self):
        self.chance = random.Random(41)
        self.houses = [lively_house(self.chance, 30) for step in range(12)]

    def questions(self, house, watcher, choices):
        """All that is asked of a house, as a list of calls that tell something."""
        meets = meets_of(house)[::4]
        return [
            lambda: why_no_house(house), lambda: places_of(house), lambda: slips_of(house), lambda: meets_of(house),
            lambda: run(house, choices, 300), lambda: table_of(house), lambda: prices_of(house),
            lambda: [shown(house, meet) for meet in meets], lambda: [has_meet(house, meet, choices) for meet in meets],
            lambda: comes_out(house), lambda: lowest_lists(house), lambda: idle_places(house), lambda: pruned(house),
            lambda: watched(house, watcher), lambda: watched_prices(house, watcher), lambda: breaks(house, watcher, choices),
            lambda: made_flat(house), lambda: run_flat(made_flat(house), choices, 3000), lambda: show_house(house),
        ]

    def test_what_is_told_is_the_askers_own_and_nothing_hangs_on_what_was_asked(self):
        for house in self.houses:
            watcher, choices = random_watcher(self.chance), [self.chance.randrange(6) for step in range(8)]
            handed = copy.deepcopy((house, watcher, choices))
            questions = self.questions(house, watcher, choices)
            first = [ask() for ask in questions]
            kept = copy.deepcopy(first)
            for told in first:
                changed(told)
            order = list(range(len(questions)))
            self.chance.shuffle(order)
            for number in order:
                self.assertEqual(questions[number](), kept[number])
            self.assertEqual((house, watcher, choices), handed)

    def test_slips_are_shown_or_never_come(self):
        for house in self.houses:
            table = table_of(house)
            self.assertTrue(is_closed(house, table))
            for meet in meets_of(house)[::3]:
                told = shown(house, meet)
                self.assertEqual(told[0] == "comes", lets(house, table, meet))
                if told[0] == "comes":
                    self.assertIn(meet, run(house, told[2], told[1])[0])
                else:
                    self.assertTrue(is_closed(house, told[1]))
                    self.assertFalse(lets(house, told[1], meet))

    def test_what_happens_is_let_by_all_and_listed(self):
        for house in self.houses:
            table, out, lists, idle = table_of(house), comes_out(house), lowest_lists(house), idle_places(house)
            self.assertTrue(hold(house, lists))
            for turn in range(15):
                trail, end, many = run(house, [self.chance.randrange(6) for step in range(12)], 400)
                for thing in trail:
                    self.assertNotIn(thing[1], idle)
                    if thing[0] == "say":
                        continue
                    self.assertTrue(lets(house, table, thing))
                    if thing[0] == "out":
                        self.assertIn(thing[2], out[deed_at(house, thing[1])[1]])
                    if thing[0] == "end":
                        kinds = lists[house[2][0][0]]
                        self.assertTrue(any(is_under(house[0], kind_of(house, thing[1]), kind) for kind in kinds))

    def test_watchers_are_kept_or_broken(self):
        for house in self.houses:
            watcher = random_watcher(self.chance)
            told = watched(house, watcher)
            tried = [[self.chance.randrange(6) for step in range(12)] for turn in range(15)]
            if told[0] == "keeps":
                self.assertTrue(keeps(house, watcher, told[1]))
                self.assertFalse(any(breaks(house, watcher, choices) for choices in tried))
            else:
                self.assertTrue(breaks(house, watcher, told[2]))

    def test_a_house_its_text_its_pruned_and_its_flat_one_do_the_same(self):
        for house in self.houses:
            again, less, flat = read_house(show_house(house)), pruned(house), made_flat(house)
            self.assertEqual(again, house)
            self.assertTrue(is_flat(flat))
            desk = Desk()
            desk.say("house\n" + show_house(house))
            for turn in range(10):
                choices = [self.chance.randrange(6) for step in range(9)]
                told = run(house, choices, 400)
                self.assertEqual(run(less, choices, 400), told)
                if told[1] != ("long",):
                    self.assertEqual(run_flat(flat, choices, 50 * told[2]), told[:2])
                    self.assertEqual(desk.say("run " + "".join(map(str, choices))).split(" ")[0], told[1][0])


if __name__ == "__main__":
    unittest.main()
