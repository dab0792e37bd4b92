"""Things that several tests need: houses, and ways to make them at random."""

SAY = ("say", "hi")
EMPTY = ("row",)
KINDS = (("any", ""), ("io", "any"), ("disk", "io"), ("net", "io"), ("odd", ""))
MARKS = ("lit", "warm")

# Each sort of deed stands in it, and each number that a deed is reached by.
FRONT = (
    "catch",
    ("row", ("on", "lit"), ("call", "back"), ("pick", SAY, ("off", "warm"), ("leave",))),
    ("disk", ("again", ("when", "lit", ("stop",), ("slip", "net")))),
    ("any", ("clean", ("pass",), ("say", "bye"))),
)
BACK = ("row", ("slip", "disk"), EMPTY)
HOUSE = (KINDS, MARKS, (("front", FRONT), ("back", BACK)))
HOUSE_TEXT = (
    "kinds any io/any disk/io net/io odd\n"
    "marks lit warm\n"
    "front: catch {on lit; call back; pick {say hi | off warm | leave}}"
    " of disk (again (when lit stop else slip net)) of any (clean pass with say bye)\n"
    "back: {slip disk; {}}"
)


def one_room(deed, kinds=KINDS, marks=MARKS):
    return (kinds, marks, (("front", deed),))


def nested(deed, many, sort="row"):
    for step in range(many):
        deed = (sort, deed)
    return deed


def row_of(deeds):
    """A row that has all these deeds in it, in rows of at most four."""
    deeds = tuple(deeds)
    while len(deeds) > 4:
        deeds = tuple(("row",) + deeds[at:at + 4] for at in range(0, len(deeds), 4))
    return ("row",) + deeds


def count_deeds(deed):
    parts = [part for part in deed[1:] if isinstance(part, tuple)]
    parts = [part[1] if deed[0] == "catch" and at > 0 else part for at, part in enumerate(parts)]
    return 1 + sum(count_deeds(part) for part in parts)


def random_word(chance):
    return "".join(chance.choice("abcxyz") for step in range(chance.randint(1, 8)))


def random_deed(chance, names, depth):
    """A deed as told in 6, whether or not its words are told of in names."""
    bare = ["say", "slip", "pass", "leave", "stop", "on", "off", "call"]
    holding = ["row", "pick", "again", "when", "clean", "catch"]
    sort = chance.choice(bare if depth == 0 else bare + holding * 2)

    def inner():
        return random_deed(chance, names, depth - 1)

    if sort in ("pass", "leave", "stop"):
        return (sort,)
    if sort in ("say", "slip", "on", "off", "call"):
        return (sort, chance.choice(names[sort]))
    if sort == "row":
        return (sort,) + tuple(inner() for step in range(chance.randint(0, 4)))
    if sort == "pick":
        return (sort,) + tuple(inner() for step in range(chance.randint(2, 3)))
    if sort == "again":
        return (sort, inner())
    if sort == "when":
        return (sort, chance.choice(names["on"]), inner(), inner())
    if sort == "clean":
        return (sort, inner(), inner())
    takers = [(chance.choice(names["slip"]), inner()) for step in range(chance.randint(1, 3))]
    return (sort, inner()) + tuple(takers)


def random_house(chance, depth=3):
    """Made as told in 5 to 7; it may have any fault but "shape"."""
    kinds = []
    for step in range(chance.randint(1, 8)):
        kinds.append((random_word(chance), chance.choice([""] + [kind[0] for kind in kinds])))
    marks = tuple(random_word(chance) for step in range(chance.randint(0, 2)))
    rooms = [random_word(chance) for step in range(chance.randint(1, 5))]
    names = {"say": ["hi", "of", "else"], "slip": [kind[0] for kind in kinds], "on": marks or ("none",)}
    names["off"] = names["on"]
    names["call"] = rooms
    return (tuple(kinds), marks, tuple((room, random_deed(chance, names, depth)) for room in rooms))
