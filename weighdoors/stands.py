"""Stands of a hall, what its rooms bear there, and which doors stand open."""

from weighdoors.errors import NoName
from weighdoors.names import is_whole


def is_stand(hall, thing):
    """Tell of anything whether it is a stand of the hall."""
    if not isinstance(thing, tuple) or len(thing) != 3:
        return False
    turn, rooms, places = thing
    walkers = hall.walkers()
    if not is_whole(turn) or not 0 <= turn < len(walkers):
        return False
    if not are_places(rooms, len(walkers), hall.rooms()):
        return False
    if not are_places(places, len(hall.stones()), hall.rooms() + walkers):
        return False
    return all([places.count(walker) <= hall.hands(walker) for walker in walkers])


def is_stand_with(hall, thing, most):
    """Tell of anything whether it is a tuple of a stand of the hall and a whole number from 0 to most."""
    if not isinstance(thing, tuple) or len(thing) != 2:
        return False
    stand, number = thing
    return is_whole(number) and 0 <= number <= most and is_stand(hall, stand)


def are_places(thing, many, names):
    """Tell of anything whether it is a tuple of so many of these names."""
    return isinstance(thing, tuple) and len(thing) == many and all([place in names for place in thing])


def bears(hall, stand, room):
    """Tell what a room bears."""
    # Sought in the list: what is handed in may be no key of a dict.
    if room not in hall.rooms():
        raise NoName(room)
    return loads(hall, stand)[room]


def loads(hall, stand, goer=None):
    """Tell what each room bears, a dict, without a goer and what it carries."""
    _, rooms, places = stand
    room_of = {walker: room for walker, room in zip(hall.walkers(), rooms)}
    borne = {room: 0 for room in hall.rooms()}
    for walker, room in room_of.items():
        if walker != goer:
            borne[room] += hall.heft(walker)
    for stone, place in zip(hall.stones(), places):
        if place != goer:
            borne[room_of.get(place, place)] += hall.heft(stone)
    return borne


def open_doors(hall, stand):
    """Tell the doors that stand open, rising."""
    borne = loads(hall, stand)
    return [door for door in hall.doors() if not unmet_rows(hall, door, borne)]


def lacks(hall, stand, door, *, goer=None):
    """Tell the rows of a door that aren't met, each with what its room bears, without a goer where one is told."""
    # Asked for its refusal alone, which goes ahead of the goer's.
    hall.door(door)
    if goer is not None and goer not in hall.walkers():
        raise NoName(goer)
    return unmet_rows(hall, door, loads(hall, stand, goer))


def unmet_rows(hall, door, borne):
    """Tell the rows of a door that aren't met where rooms bear so much, each with what its room bears."""
    return [(row, borne[row[0]]) for row in hall.door(door)[3] if not is_met(row, borne[row[0]])]


def is_met(row, borne):
    """Tell whether a row is met by what its room bears."""
    _, least, most = row
    return least <= borne and (most is None or borne <= most)
