"""The text of a hall, written and read."""

from weighdoors.bounds import MOST_DOORS, MOST_HANDS, MOST_HEFT, MOST_ROOMS, MOST_STONES, MOST_WALKERS
from weighdoors.errors import NoText
from weighdoors.halls import Hall
from weighdoors.names import is_name
from weighdoors.rowtexts import is_number, read_rows, show_rows

# In the order in which a text has them.
KINDS = ("room", "door", "stone", "walker")


def show_hall(hall):
    """Tell the text of a hall."""
    rows = [f"room {name}" for name in hall.rooms()]
    rows.extend([show_door(hall, name) for name in hall.doors()])
    rows.extend([f"stone {name} {hall.heft(name)}" for name in hall.stones()])
    rows.extend([f"walker {name} {hall.heft(name)} {hall.hands(name)}" for name in hall.walkers()])
    return "\n".join(rows)


def show_door(hall, name):
    """Tell the row of a text that writes a door."""
    one, other, way, rows = hall.door(name)
    return f"door {name} {one} {other} {way}{show_rows(rows)}"


def read_hall(text):
    """Tell the hall that a text, of anything, writes."""
    if not isinstance(text, str):
        raise NoText(0)
    rows = text.split("\n")
    parts = {kind: [] for kind in KINDS}
    for at, row in enumerate(rows):
        words = row.split(" ")
        part = read_part(words, parts)
        if part is None:
            raise NoText(at)
        parts[words[0]].append(part)
    # Each text that goes well so far can go on, to a hall as soon as a walker is there.
    if not parts["walker"]:
        raise NoText(len(rows))
    return Hall([part[0] for part in parts["room"]], parts["door"], parts["stone"], parts["walker"])


def read_part(words, parts):
    """Tell the part of a hall, its name first, that the words of a row write behind the parts ahead of it.

    It is None where no hall's text goes on so.
    """
    if len(words) < 2 or not is_place(words[0], parts) or not is_new_name(words[0], words[1], parts):
        return None
    if words[0] == "room":
        return read_room(words)
    if words[0] == "door":
        return read_door(words, [part[0] for part in parts["room"]])
    if words[0] == "stone":
        return read_stone(words)
    return read_walker(words)


def is_place(kind, parts):
    """Tell whether one more part of this kind may follow the parts ahead of it."""
    if kind not in KINDS or any([parts[later] for later in KINDS[KINDS.index(kind) + 1:]]):
        return False
    if kind != "room" and not parts["room"]:
        return False
    most = {"room": MOST_ROOMS, "door": MOST_DOORS, "stone": MOST_STONES, "walker": MOST_WALKERS}
    return len(parts[kind]) < most[kind]


def is_new_name(kind, name, parts):
    """Tell whether a word is a name that a part of this kind may have behind the parts ahead of it."""
    if not is_name(name) or any([name == part[0] for some in KINDS for part in parts[some]]):
        return False
    # Walkers stand by their turns, all else rises by its names.
    return kind == "walker" or not parts[kind] or parts[kind][-1][0] < name


def read_room(words):
    """Tell the room that the words of a row write, else None."""
    return (words[1],) if len(words) == 2 else None


def read_door(words, rooms):
    """Tell the door between such rooms that the words of a row write, else None."""
    if len(words) < 5:
        return None
    name, one, other, way = words[1:5]
    if one not in rooms or other not in rooms or one == other:
        return None
    if way not in ("both", "on") or (way == "both" and one > other):
        return None
    rows = read_rows(words[5:], rooms)
    return None if rows is None else (name, one, other, way, rows)


def read_stone(words):
    """Tell the stone that the words of a row write, else None."""
    if len(words) != 3 or not is_number(words[2], MOST_HEFT):
        return None
    return words[1], int(words[2])


def read_walker(words):
    """Tell the walker that the words of a row write, else None."""
    if len(words) != 4 or not is_number(words[2], MOST_HEFT) or not is_number(words[3], MOST_HANDS):
        return None
    return words[1], int(words[2]), int(words[3])
