"""Lists: which slips come out of each room, and the least kinds that tell of them."""

from slipcatch.houses import are_unlike, kind_of, room_names, slips_of
from slipcatch.kinds import is_under, kind_names, nearest_over, overs_of
from slipcatch.tables import table_of


def comes_out(house):
    ends = {}
    for room in room_names(house):
        ends[room] = {}
    for key, ways in table_of(house).items():
        if len(key[0]) == 1:
            ends[key[0][0]].update([(way[0], True) for way in ways])
    slips = slips_of(house)
    out = {}
    for room in ends:
        out[room] = [slip for slip in slips if slip in ends[room]]
    return out


# A kind that stands over others is over nothing outside its tree, so each
# tree has to be told of by a kind of its own, and one does.
def lowest_list(kinds, slipping):
    trees = {}
    for kind in slipping:
        trees.setdefault(overs_of(kinds, kind)[-1], []).append(kind)
    lowest = [nearest_over(kinds, names) for names in trees.values()]
    return [kind for kind in kind_names(kinds) if kind in lowest]


def lowest_lists(house):
    lists = {}
    for room, slips in comes_out(house).items():
        lists[room] = lowest_list(house[0], [kind_of(house, slip) for slip in slips])
    return lists


def is_kind_list(kinds, listed):
    names = kind_names(kinds)
    return are_unlike(listed) and all([kind in names for kind in listed])


def are_lists(house, lists):
    if set(lists) != set(room_names(house)):
        return False
    return all([is_kind_list(house[0], listed) for listed in lists.values()])


def has_over(house, slip, listed):
    return any([is_under(house[0], kind_of(house, slip), over) for over in listed])


def hold(house, lists):
    if not are_lists(house, lists):
        return False
    for room, slips in comes_out(house).items():
        if not all([has_over(house, slip, lists[room]) for slip in slips]):
            return False
    return True
