"""Watchers: rules about the words that a run says, and whether all runs keep them."""

from slipcatch.deeds import is_pair, is_word
from slipcatch.houses import are_unlike
from slipcatch.prices import Reckoning
from slipcatch.runs import run
from slipcatch.shows import MOST_TRIED, plans_at, told_plan
from slipcatch.tables import View, front_key, is_closed_in, state_behind

MOST_STATES = 4


def are_states(thing):
    if not isinstance(thing, tuple) or not 1 <= len(thing) <= MOST_STATES:
        return False
    return all([is_word(state) for state in thing]) and are_unlike(thing)


def are_moves(thing, states):
    if not isinstance(thing, dict):
        return False
    for asked, state in thing.items():
        if not is_pair(asked) or asked[0] not in states or not is_word(asked[1]):
            return False
        if state not in states:
            return False
    return True


def are_some_states(thing, states):
    if not isinstance(thing, tuple) or not all([state in states for state in thing]):
        return False
    return are_unlike(thing)


def is_watcher(thing):
    if not isinstance(thing, tuple) or len(thing) != 4:
        return False
    if not are_states(thing[0]) or not are_moves(thing[1], thing[0]):
        return False
    return are_some_states(thing[2], thing[0]) and are_some_states(thing[3], thing[0])


# Whether a run that ends by this way, of the front key, breaks the watcher.
# No run ends by stop; only a greater table than the least one has such a way.
def is_break(watcher, way):
    end = way[0]
    state = way[1][1]
    if end == "stop":
        return False
    if end in ("done", "leave"):
        return state not in watcher[2]
    return state not in watcher[3]


def watched(house, watcher):
    reckoning = Reckoning(View(house, watcher))
    front = front_key(reckoning.view)
    found = [[(front, way)] for way in reckoning.table[front] if is_break(watcher, way)]
    if not found:
        return ("keeps", reckoning.table)
    return ("breaks",) + told_plan(reckoning, plans_at(reckoning, front, 0, found))


def keeps(house, watcher, table):
    view = View(house, watcher)
    if not is_closed_in(view, table):
        return False
    return not any([is_break(watcher, way) for way in table[front_key(view)]])


def breaks(house, watcher, choices):
    told = run(house, choices, MOST_TRIED)
    state = watcher[0][0]
    for thing in told[0]:
        if thing[0] == "say":
            state = state_behind(watcher, thing[2], state)
    if told[1][0] == "done":
        return state not in watcher[2]
    return told[1][0] == "slip" and state not in watcher[3]


def watched_prices(house, watcher):
    return Reckoning(View(house, watcher)).both_prices()
