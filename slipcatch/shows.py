"""Shows: a run of the fewest deeds that has a meet, or a table that lets none."""

from slipcatch.errors import NoMeet, TooFar
from slipcatch.meets import is_meet
from slipcatch.prices import Reckoning
from slipcatch.runs import run
from slipcatch.tables import View, front_key, parts_at, parts_of_meet

MOST_SHOWN = 3000
MOST_TRIED = 5000


# A plan is (many, key, parts): behind so many deeds, by way of the key and
# the parts in their order, a run has what was asked for.
def plans_at(reckoning, key, own, found):
    plans = []
    for parts in found:
        price = sum([reckoning.endings.prices[part] for part in parts])
        plans.append((reckoning.beginnings.prices[key] + own + price, key, parts))
    return plans


def plans_of_meet(reckoning, meet):
    view = reckoning.view
    table = reckoning.table
    if meet[0] == "end":
        front = front_key(view)
        # The front deed is a part here, so its own beginning is in its price.
        return plans_at(reckoning, front, 0, [[part] for part in parts_at(table, front, meet[1])])
    plans = []
    for key in table:
        if key[0] == meet[1]:
            plans.extend(plans_at(reckoning, key, 1, parts_of_meet(view, table, key, meet)))
    return plans


# The number of deeds and the choices of the cheapest plan.
def told_plan(reckoning, plans):
    plan = min(plans, key=lambda known: known[0])
    if plan[0] > MOST_SHOWN:
        raise TooFar(plan[0])
    choices = reckoning.choices_ahead(plan[1])
    for part in plan[2]:
        choices.extend(reckoning.choices_to(part))
    return (plan[0], choices)


def shown(house, meet):
    if not is_meet(house, meet):
        raise NoMeet("this is no meet of the house")
    reckoning = Reckoning(View(house, None))
    plans = plans_of_meet(reckoning, meet)
    if not plans:
        return ("never", reckoning.table)
    return ("comes",) + told_plan(reckoning, plans)


def has_meet(house, meet, choices):
    return meet in run(house, choices, MOST_TRIED)[0]
