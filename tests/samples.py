"""Things that several tests need: houses, and ways to make them at random."""

from slipcatch.houses import deed_at, places_of, slips_of, why_no_house
from slipcatch.tables import table_of
from slipcatch.texts import read_house

SAY = ("say", "hi")
EMPTY = ("row",)
KINDS = (("any", ""), ("io", "any"), ("disk", "io"), ("net", "io"), ("odd", ""))
MARKS = ("lit", "warm")

F = ("front",)
OFF = ()
LIT = ("lit",)
WARM = ("warm",)
BOTH = ("lit", "warm")

# Each sort of deed stands in it, and each number that a deed is reached by.
FRONT = (
    "catch",
    ("row", ("on", "lit"), ("call", "back"), ("pick", SAY, ("off", "warm"), ("leave",))),
    ("disk", ("again", ("when", "lit", ("stop",), ("slip", "net")))),
    ("any", ("clean", ("pass",), ("say", "bye"))),
)
BACK = ("row", ("slip", "disk"), EMPTY)
HOUSE = (KINDS, MARKS, (("front", FRONT), ("back", BACK)))
HEAD = "kinds any io/any disk/io net/io odd\nmarks lit warm\n"
HOUSE_TEXT = HEAD + (
    "front: catch {on lit; call back; pick {say hi | off warm | leave}}"
    " of disk (again (when lit stop else slip net)) of any (clean pass with say bye)\n"
    "back: {slip disk; {}}"
)


def one_room(deed, kinds=KINDS, marks=MARKS):
    return (kinds, marks, (("front", deed),))


def nested(deed, many, sort="row"):
    for step in range(many):
        deed = (sort, deed)
    return deed


def row_of(deeds):
    """A row that has all these deeds in it, in rows of at most four."""
    deeds = tuple(deeds)
    while len(deeds) > 4:
        deeds = tuple(("row",) + deeds[at:at + 4] for at in range(0, len(deeds), 4))
    return ("row",) + deeds


def count_deeds(deed):
    parts = [part for part in deed[1:] if isinstance(part, tuple)]
    parts = [part[1] if deed[0] == "catch" and at > 0 else part for at, part in enumerate(parts)]
    return 1 + sum(count_deeds(part) for part in parts)


def random_word(chance):
    return "".join(chance.choice("abcxyz") for step in range(chance.randint(1, 8)))


def random_deed(chance, names, depth):
    """A deed as told in 6, whether or not its words are told of in names."""
    bare = ["say", "slip", "pass", "leave", "stop", "on", "off", "call"]
    holding = ["row", "pick", "again", "when", "clean", "catch"]
    sort = chance.choice(bare if depth == 0 else bare + holding * 2)

    def inner():
        return random_deed(chance, names, depth - 1)

    if sort in ("pass", "leave", "stop"):
        return (sort,)
    if sort in ("say", "slip", "on", "off", "call"):
        return (sort, chance.choice(names[sort]))
    if sort == "row":
        return (sort,) + tuple(inner() for step in range(chance.randint(0, 4)))
    if sort == "pick":
        return (sort,) + tuple(inner() for step in range(chance.randint(2, 3)))
    if sort == "again":
        return (sort, inner())
    if sort == "when":
        return (sort, chance.choice(names["on"]), inner(), inner())
    if sort == "clean":
        return (sort, inner(), inner())
    takers = [(chance.choice(names["slip"]), inner()) for step in range(chance.randint(1, 3))]
    return (sort, inner()) + tuple(takers)


def random_house(chance, depth=3):
    """Made as told in 5 to 7; it may have any fault but "shape"."""
    kinds = []
    for step in range(chance.randint(1, 8)):
        kinds.append((random_word(chance), chance.choice([""] + [kind[0] for kind in kinds])))
    marks = tuple(random_word(chance) for step in range(chance.randint(0, 2)))
    rooms = [random_word(chance) for step in range(chance.randint(1, 5))]
    names = {"say": ["hi", "of", "else"], "slip": [kind[0] for kind in kinds], "on": marks or ("none",)}
    names["off"] = names["on"]
    names["call"] = rooms
    return (tuple(kinds), marks, tuple((room, random_deed(chance, names, depth)) for room in rooms))


def at(*numbers):
    """A place in the front room."""
    return F + numbers


def key(place, marks=OFF, slip=None):
    return (place, marks, slip)


def house_of(*rooms):
    """A house of KINDS and MARKS from the texts of its rooms, or a tuple of these; one without a name is the front one."""
    if isinstance(rooms[0], tuple):
        rooms = rooms[0]
    return read_house(HEAD + "\n".join(room if ": " in room else "front: " + room for room in rooms))


def good_deed(chance, rooms, most, depth, stop=False, passing=False, cleaned=False):
    """A deed of a house with no fault, of about so many deeds at most."""
    bare = ["say", "slip", "slip", "leave", "on", "on", "off", "call"] + ["stop"] * 2 * stop + ["pass"] * 3 * passing
    holding = ["row", "row", "pick", "again", "when", "catch", "catch"] + ["clean"] * (not cleaned)
    sort = chance.choice(bare if depth == 0 or most < 3 else bare + holding * 3)
    words = {"say": "ab", "slip": [kind[0] for kind in KINDS], "on": MARKS, "off": MARKS, "when": MARKS, "call": rooms}
    head = (sort, chance.choice(words[sort])) if sort in words else (sort,)
    counts = {"row": (0, 4), "pick": (2, 3), "again": (1, 1), "when": (2, 2), "clean": (2, 2), "catch": (2, 4)}
    many = chance.randint(*counts.get(sort, (0, 0)))

    def inner(number):
        return good_deed(
            chance, rooms, (most - 1) // many, depth - 1, stop or sort == "again",
            passing or sort == "catch" and number > 0, cleaned or sort == "clean" and number == 1)

    deeds = [inner(number) for number in range(many)]
    if sort == "catch":
        return ("catch", deeds[0]) + tuple((chance.choice(words["slip"]), deed) for deed in deeds[1:])
    return head + tuple(deeds)


def good_house(chance, most=16):
    """One of KINDS and MARKS with no fault, of about so many deeds at most."""
    while True:
        rooms = ["front", "back", "side"][:chance.randint(1, 3)]
        house = (KINDS, MARKS, tuple((room, good_deed(chance, rooms, most // len(rooms), 5)) for room in rooms))
        if why_no_house(house) is None:
            return house


def passes(deed):
    """Whether a pass stands in it that has the slip in hand of this deed."""
    if deed[0] == "pass":
        return True
    inner = deed[1:2] if deed[0] == "catch" else [part for part in deed[1:] if isinstance(part, tuple)]
    return any(passes(part) for part in inner)


def greatest(house, scenes=(OFF, LIT, WARM, BOTH)):
    """A closed table that has all ways at each key by which no pass could be begun without a slip in hand."""
    slips = slips_of(house)
    table = {}
    for place in places_of(house):
        hands = slips + ([] if passes(deed_at(house, place)) else [None])
        for scene in scenes:
            for slip in hands:
                table[(place, scene, slip)] = [(end, then) for end in ["done", "leave", "stop"] + slips for then in scenes]
    return table


def lively_house(chance, most=16):
    """Of some such houses the one in which the most happens."""
    return max((good_house(chance, most) for step in range(12)), key=lambda house: len(table_of(house)))


def calls(room, many):
    return ("row",) + (("call", room),) * many


def far_house(more):
    """Its one slip comes behind some thousands of deeds and this many more; no choice is asked for."""
    pad = EMPTY if more == 0 else row_of([EMPTY] * more)
    front = ("row", calls("aa", 4), calls("aa", 3), pad, ("slip", "io"))
    below = [("aa", calls("bb", 4)), ("bb", calls("cc", 4)), ("cc", calls("dd", 4)), ("dd", row_of([SAY] * 4))]
    return (KINDS, (), (("front", front),) + tuple(below))


def very_far_house():
    """One room is called sixteen times by each of three states of it, and puts the state back."""
    many = ("row",) + (calls("step", 4),) * 4
    warmer = ("row", ("on", "warm"), ("call", "many"), ("off", "warm"))
    lit = ("row", ("row", ("on", "lit"), ("off", "warm")), ("call", "many"), ("off", "lit"), ("on", "warm"))
    step = ("when", "lit", ("when", "warm", ("call", "deep"), warmer), ("when", "warm", lit, warmer))
    front = ("row", ("call", "step"), ("slip", "io"))
    return (KINDS, MARKS, (("front", front), ("step", step), ("many", many), ("deep", row_of([SAY] * 2))))


def random_watcher(chance):
    """One that looks on what good_house says."""
    states = ("up", "down", "left", "right")[:chance.randint(1, 4)]
    moves = {(state, word): chance.choice(states) for state in states for word in "ab" if chance.random() < 0.7}

    def some():
        return tuple(state for state in states if chance.random() < 0.6)

    return (states, moves, some(), some())
