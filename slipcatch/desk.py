"""The desk: rows of words that are told, each answered with a text."""

from slipcatch.deeds import is_word
from slipcatch.errors import NoRoom, NoRow, NoStand
from slipcatch.flat import made_flat
from slipcatch.houses import room_names
from slipcatch.idle import idle_places, pruned
from slipcatch.lists import comes_out, lowest_lists
from slipcatch.runs import run
from slipcatch.shows import MOST_TRIED, shown
from slipcatch.texts import read_house
from slipcatch.watchers import is_watcher, watched

FIGURES = "0123456789"
HOUSE_HEAD = "house\n"

# What stands behind the word of each meet: p a PLACE, n a taker's number.
MEET_PARTS = {
    "slip": "p",
    "pass": "pp",
    "take": "pnp",
    "by": "pp",
    "kept": "pp",
    "lost": "pp",
    "out": "pp",
    "end": "p",
}


def is_figure(text):
    return len(text) == 1 and text in FIGURES


def read_figure(text):
    if not is_figure(text):
        raise NoRow(f"{text!r} is not one figure")
    return int(text)


def read_place(text):
    parts = text.split(".")
    return (read_word(parts[0]),) + tuple([read_figure(part) for part in parts[1:]])


def read_word(text):
    if not is_word(text):
        raise NoRow(f"{text!r} is no word")
    return text


# words are those behind the row's first one.
def read_choices(words):
    if len(words) > 1 or words == [""]:
        raise NoRow("choices are figures without blanks")
    return [read_figure(sign) for sign in "".join(words)]


def read_meet(words):
    if not words or words[0] not in MEET_PARTS or len(words) != 1 + len(MEET_PARTS[words[0]]):
        raise NoRow("these are not the words of a meet")
    parts = [words[0]]
    for sort, word in zip(MEET_PARTS[words[0]], words[1:]):
        parts.append(read_place(word) if sort == "p" else read_figure(word))
    return tuple(parts)


def read_parts(words):
    parts = [[]]
    for word in words:
        if word == ";":
            parts.append([])
        else:
            parts[-1].append(word)
    return parts


def read_moves(words):
    moves = {}
    if len(words) % 3 != 0:
        raise NoRow("a move is a state, a word and a state")
    for spot in range(0, len(words), 3):
        asked = (words[spot], words[spot + 1])
        if asked in moves:
            raise NoRow("there are two moves for a state and a word")
        moves[asked] = words[spot + 2]
    return moves


def read_watcher(words):
    parts = read_parts(words)
    if len(parts) != 4:
        raise NoRow("a watcher is told in four parts")
    watcher = (tuple(parts[0]), read_moves(parts[1]), tuple(parts[2]), tuple(parts[3]))
    if not is_watcher(watcher):
        raise NoRow("this is no watcher")
    return watcher


def need_nothing(words):
    if words:
        raise NoRow("nothing may stand behind this word")
    return None


def read_room(words):
    if len(words) != 1:
        raise NoRow("one room is to be told")
    return read_word(words[0])


# What the words behind the first one tell: whether they fit it is known
# without a house.
def read_told(sort, words):
    if sort in ("run", "trail"):
        return read_choices(words)
    if sort == "meet":
        return read_meet(words)
    if sort == "out":
        return read_room(words)
    if sort == "watch":
        return read_watcher(words)
    if sort in ("lists", "idle", "prune", "flat"):
        return need_nothing(words)
    raise NoRow(f"no row begins with {sort!r}")


def show_place(place):
    return ".".join([str(part) for part in place])


def show_part(part):
    return show_place(part) if isinstance(part, tuple) else str(part)


def show_happening(thing):
    return " ".join([show_part(part) for part in thing])


# Where there are no choices, the blank ahead of them is left out, too.
def show_choices(head, choices):
    if not choices:
        return head
    return head + " " + "".join([str(choice) for choice in choices])


def answer_run(house, choices):
    told = run(house, choices, MOST_TRIED)
    words = [thing[2] for thing in told[0] if thing[0] == "say"]
    return " ".join([show_happening(told[1])] + words)


def answer_trail(house, choices):
    return "\n".join([show_happening(thing) for thing in run(house, choices, MOST_TRIED)[0]])


def answer_meet(house, meet):
    told = shown(house, meet)
    if told[0] == "never":
        return "never"
    many = told[1]
    return show_choices(f"comes {many}", told[2])


def answer_out(house, room):
    if room not in room_names(house):
        raise NoRoom(f"there is no room {room!r}")
    return " ".join([show_place(slip) for slip in comes_out(house)[room]])


def answer_lists(house):
    lists = lowest_lists(house)
    return "\n".join([" ".join([room + ":"] + lists[room]) for room in room_names(house)])


def answer_idle(house):
    return " ".join([show_place(place) for place in idle_places(house)])


def answer_watch(house, watcher):
    told = watched(house, watcher)
    if told[0] == "keeps":
        return "keeps"
    return show_choices("breaks", told[2])


def answer_flat(house):
    return " ".join([str(len(room[1])) for room in made_flat(house)[2]])


def answer(house, sort, told):
    if sort == "run":
        return answer_run(house, told)
    if sort == "trail":
        return answer_trail(house, told)
    if sort == "meet":
        return answer_meet(house, told)
    if sort == "out":
        return answer_out(house, told)
    if sort == "lists":
        return answer_lists(house)
    if sort == "idle":
        return answer_idle(house)
    if sort == "watch":
        return answer_watch(house, told)
    return answer_flat(house)


class Desk:
    def __init__(self):
        # None as long as no house was told.
        self.house = None

    def say(self, row):
        if row.startswith(HOUSE_HEAD):
            self.house = read_house(row[len(HOUSE_HEAD):])
            return "ok"
        words = row.split(" ")
        told = read_told(words[0], words[1:])
        if self.house is None:
            raise NoStand("no house was told")
        if words[0] == "prune":
            self.house = pruned(self.house)
            return "ok"
        return answer(self.house, words[0], told)
