"""Deeds: which can be done, the stand behind one, and what it opens and shuts."""

from weighdoors.errors import NoDeed
from weighdoors.names import is_name
from weighdoors.stands import lacks, loads, open_doors, unmet_rows

WAIT = ("wait",)


def is_deed(thing):
    """Tell of anything whether it is a deed by its words and names, of whatever hall."""
    if not isinstance(thing, tuple):
        return False
    if len(thing) == 2:
        return thing[0] in ("go", "lift", "lay") and is_name(thing[1])
    return thing == WAIT


def deeds(hall, stand):
    """Tell the deeds that can be done, rising."""
    turn, rooms, places = stand
    walker = hall.walkers()[turn]
    borne = loads(hall, stand, walker)
    goes = [("go", door) for door, _ in hall.leads(rooms[turn]) if not unmet_rows(hall, door, borne)]
    lays = [("lay", stone) for stone, place in zip(hall.stones(), places) if place == walker]
    lifts = []
    if len(lays) < hall.hands(walker):
        lifts = [("lift", stone) for stone, place in zip(hall.stones(), places) if place == rooms[turn]]
    return goes + lays + lifts + [WAIT]


def room_behind(hall, door, room):
    """Tell the room into which a door leads from a room, None where it doesn't lead from there."""
    for name, behind in hall.leads(room):
        if name == door:
            return behind
    return None


def done(hall, stand, deed):
    """Tell the stand behind a deed, of anything."""
    why = why_not(hall, stand, deed)
    if why is not None:
        raise NoDeed(why)
    return stand_behind(hall, stand, deed)


def stand_behind(hall, stand, deed):
    """Tell the stand behind a deed of which it is known that it can be done."""
    turn, rooms, places = stand
    rooms = list(rooms)
    places = list(places)
    if deed[0] == "go":
        rooms[turn] = room_behind(hall, deed[1], rooms[turn])
    if deed[0] == "lift":
        places[hall.stones().index(deed[1])] = hall.walkers()[turn]
    if deed[0] == "lay":
        places[hall.stones().index(deed[1])] = rooms[turn]
    return (turn + 1) % len(rooms), tuple(rooms), tuple(places)


def why_not(hall, stand, deed):
    """Tell the word of why a deed, of anything, can't be done, None where it can."""
    if not is_deed(deed):
        return "form"
    if deed[0] == "go":
        return why_no_go(hall, stand, deed[1])
    if deed[0] == "lift":
        return why_no_lift(hall, stand, deed[1])
    if deed[0] == "lay":
        return why_no_lay(hall, stand, deed[1])
    return None


def why_no_go(hall, stand, door):
    """Tell the word of why whose turn it is can't go through a door, None where it can."""
    turn, rooms, _ = stand
    if door not in hall.doors():
        return "door"
    if room_behind(hall, door, rooms[turn]) is None:
        return "room"
    if lacks(hall, stand, door, goer=hall.walkers()[turn]):
        return "shut"
    return None


def why_no_lift(hall, stand, stone):
    """Tell the word of why whose turn it is can't lift a stone, None where it can."""
    turn, rooms, places = stand
    walker = hall.walkers()[turn]
    if stone not in hall.stones():
        return "stone"
    if places[hall.stones().index(stone)] != rooms[turn]:
        return "far"
    if places.count(walker) >= hall.hands(walker):
        return "hands"
    return None


def why_no_lay(hall, stand, stone):
    """Tell the word of why whose turn it is can't lay a stone, None where it can."""
    turn, _, places = stand
    if stone not in hall.stones():
        return "stone"
    if places[hall.stones().index(stone)] != hall.walkers()[turn]:
        return "held"
    return None


def swung(hall, stand, deed):
    """Tell the doors that a deed opens and those that it shuts, a tuple of two lists, rising."""
    behind = done(hall, stand, deed)
    return swings(open_doors(hall, stand), open_doors(hall, behind))


def swings(ahead, behind):
    """Tell the doors opened and those shut, by the doors that stand open ahead and behind."""
    return [door for door in behind if door not in ahead], [door for door in ahead if door not in behind]
