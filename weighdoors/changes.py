"""Changed halls: new ones, made of another's parts."""

from weighdoors.errors import NoName
from weighdoors.halls import Hall


def walled(hall, door):
    """Tell the hall without a door."""
    hall.door(door)
    return with_doors(hall, [part for part in door_parts(hall) if part[0] != door])


def opened(hall, door):
    """Tell the hall with a door that has no rows."""
    return rowed(hall, door, ())


def rowed(hall, door, rows):
    """Tell the hall with other rows of a door."""
    one, other, way, _ = hall.door(door)
    others = [part for part in door_parts(hall) if part[0] != door]
    return with_doors(hall, others + [(door, one, other, way, rows)])


def hefted(hall, name, heft):
    """Tell the hall with another heft of a stone or walker."""
    hall.heft(name)
    stones = [(stone, heft if stone == name else own) for stone, own in stone_parts(hall)]
    walkers = [(walker, heft if walker == name else own, hands) for walker, own, hands in walker_parts(hall)]
    return Hall(hall.rooms(), door_parts(hall), stones, walkers)


def hollowed(hall, stone):
    """Tell the hall with a stone that has the heft 0."""
    if stone not in hall.stones():
        raise NoName(stone)
    return hefted(hall, stone, 0)


def ordered(hall, walkers):
    """Tell the hall with its walkers in another order of turns."""
    parts = [(walker, hall.heft(walker), hall.hands(walker)) for walker in walkers]
    return Hall(hall.rooms(), door_parts(hall), stone_parts(hall), parts)


def beside(one, other):
    """Tell two halls without a name in common as one hall, the one's walkers ahead of the other's."""
    return Hall(one.rooms() + other.rooms(), door_parts(one) + door_parts(other),
                stone_parts(one) + stone_parts(other), walker_parts(one) + walker_parts(other))


def beside_stand(one, stand, other, second):
    """Tell the stand of two halls beside one another that has a stand of each; the turn is the one's."""
    turn, rooms, places = stand
    _, more_rooms, more_places = second
    place_of = {stone: place for stone, place in zip(one.stones() + other.stones(), places + more_places)}
    return turn, rooms + more_rooms, tuple([place_of[stone] for stone in sorted(place_of)])


def copied(hall):
    """Tell a hall that is equal to the hall, a new one."""
    return with_doors(hall, door_parts(hall))


def with_doors(hall, doors):
    """Tell the hall with other doors."""
    return Hall(hall.rooms(), doors, stone_parts(hall), walker_parts(hall))


def door_parts(hall):
    """Tell the doors as a hall is made of them."""
    return [(name,) + hall.door(name) for name in hall.doors()]


def stone_parts(hall):
    """Tell the stones as a hall is made of them."""
    return [(name, hall.heft(name)) for name in hall.stones()]


def walker_parts(hall):
    """Tell the walkers as a hall is made of them."""
    return [(name, hall.heft(name), hall.hands(name)) for name in hall.walkers()]
