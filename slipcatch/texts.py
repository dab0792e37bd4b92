"""Houses as texts: how one is written and how one is read."""

from slipcatch.deeds import LETTERS, inner_deeds
from slipcatch.errors import NoHouse, NoText
from slipcatch.houses import why_no_house

BARE = ("pass", "leave", "stop")
NAMING = ("say", "slip", "on", "off", "call")
HOLDERS = ("again", "when", "clean", "catch")
MOST_AROUND_READ = 40


def show_kind(name, over):
    if over == "":
        return name
    return name + "/" + over


def show_within_holder(deed):
    if deed[0] in HOLDERS:
        return "(" + show_deed(deed) + ")"
    return show_deed(deed)


def show_holder(deed):
    shown = [show_within_holder(inner) for inner in inner_deeds(deed)]
    if deed[0] == "again":
        return "again " + shown[0]
    if deed[0] == "when":
        return "when " + deed[1] + " " + shown[0] + " else " + shown[1]
    if deed[0] == "clean":
        return "clean " + shown[0] + " with " + shown[1]
    takers = [" of " + taker[0] + " " + text for taker, text in zip(deed[2:], shown[1:])]
    return "catch " + shown[0] + "".join(takers)


def show_deed(deed):
    if deed[0] == "row":
        return "{" + "; ".join([show_deed(inner) for inner in deed[1:]]) + "}"
    if deed[0] == "pick":
        return "pick {" + " | ".join([show_deed(inner) for inner in deed[1:]]) + "}"
    if deed[0] in HOLDERS:
        return show_holder(deed)
    return " ".join(deed)


def show_house(house):
    kinds = ["kinds"] + [show_kind(name, over) for name, over in house[0]]
    marks = ["marks"] + list(house[1])
    rooms = [room + ": " + show_deed(deed) for room, deed in house[2]]
    return "\n".join([" ".join(kinds), " ".join(marks)] + rooms)


class Reader:
    def __init__(self, text):
        self.text = text
        self.spot = 0

    def sees(self, piece):
        return self.text.startswith(piece, self.spot)

    def skip(self, piece):
        if not self.sees(piece):
            raise NoText(f"here stands no {piece!r}")
        self.spot += len(piece)

    # Tells any row of letters, none of them too: whether it is a word is
    # asked of the whole house, at its end.
    def read_letters(self):
        first = self.spot
        while self.spot < len(self.text) and self.text[self.spot] in LETTERS:
            self.spot += 1
        return self.text[first:self.spot]

    def need_end(self):
        if self.spot != len(self.text):
            raise NoText("something stands behind the deed")


def read_listed(reader, between, around):
    reader.skip("{")
    listed = []
    if not reader.sees("}"):
        listed.append(read_deed(reader, around))
        while reader.sees(between):
            reader.skip(between)
            listed.append(read_deed(reader, around))
    reader.skip("}")
    return tuple(listed)


def read_within_holder(reader, around):
    bracket = reader.sees("(")
    if bracket:
        reader.skip("(")
    deed = read_deed(reader, around)
    if bracket:
        reader.skip(")")
    if bracket != (deed[0] in HOLDERS):
        raise NoText("a round bracket is missing, or one too many")
    return deed


def read_takers(reader, around):
    takers = []
    while reader.sees(" of "):
        reader.skip(" of ")
        kind = reader.read_letters()
        reader.skip(" ")
        takers.append((kind, read_within_holder(reader, around)))
    return tuple(takers)


def read_holder(reader, sort, around):
    words = ()
    if sort == "when":
        words = (reader.read_letters(),)
        reader.skip(" ")
    first = read_within_holder(reader, around)
    if sort == "again":
        return (sort, first)
    if sort == "catch":
        return (sort, first) + read_takers(reader, around)
    reader.skip(" else " if sort == "when" else " with ")
    return (sort,) + words + (first, read_within_holder(reader, around))


# around is how many deeds this one stands within. Too deep a deed is refused
# as soon as it begins: whatever comes behind it, the whole is no text.
def read_deed(reader, around):
    if around > MOST_AROUND_READ:
        raise NoText("a deed stands too deep")
    if reader.sees("{"):
        return ("row",) + read_listed(reader, "; ", around + 1)
    sort = reader.read_letters()
    if sort in BARE:
        return (sort,)
    reader.skip(" ")
    if sort in NAMING:
        return (sort, reader.read_letters())
    if sort == "pick":
        return (sort,) + read_listed(reader, " | ", around + 1)
    if sort in HOLDERS:
        return read_holder(reader, sort, around + 1)
    raise NoText(f"no deed is called {sort!r}")


def read_room(line):
    reader = Reader(line)
    name = reader.read_letters()
    reader.skip(": ")
    deed = read_deed(reader, 0)
    reader.need_end()
    return (name, deed)


def read_headed(head, line):
    parts = line.split(" ")
    if parts[0] != head:
        raise NoText(f"here stands no {head!r}")
    return parts[1:]


def read_kind(part):
    pieces = part.split("/")
    if len(pieces) == 1:
        return (part, "")
    # A kind that stands under none is written without the stroke.
    if len(pieces) > 2 or pieces[1] == "":
        raise NoText(f"{part!r} is no kind")
    return (pieces[0], pieces[1])


def read_house(text):
    lines = text.split("\n")
    if len(lines) < 3:
        raise NoText("a line of kinds, one of marks or one of a room is missing")
    kinds = tuple([read_kind(part) for part in read_headed("kinds", lines[0])])
    marks = tuple(read_headed("marks", lines[1]))
    rooms = tuple([read_room(line) for line in lines[2:]])
    house = (kinds, marks, rooms)
    fault = why_no_house(house)
    if fault == "shape":
        raise NoText("a word or a number of things is not as a house has it")
    if fault is not None:
        raise NoHouse(fault)
    return house
