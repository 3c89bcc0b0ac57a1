"""Halls under other names, and the turnings: other names by which a hall is the hall itself."""

from weighdoors.bounds import MOST_TURNINGS
from weighdoors.changes import door_parts, stone_parts, walker_parts
from weighdoors.deeds import WAIT, is_deed
from weighdoors.errors import NoTurning, TooMany
from weighdoors.halls import Hall


def turned(hall, names):
    """Tell the hall under other names, a dict; a name that isn't in it stays."""
    doors = [(become(names, door), become(names, one), become(names, other), way,
              [(become(names, room), least, most) for room, least, most in rows])
             for door, one, other, way, rows in door_parts(hall)]
    stones = [(become(names, stone), heft) for stone, heft in stone_parts(hall)]
    walkers = [(become(names, walker), heft, hands) for walker, heft, hands in walker_parts(hall)]
    return Hall([become(names, room) for room in hall.rooms()], doors, stones, walkers)


def become(names, name):
    """Tell what becomes of a name."""
    return names.get(name, name)


def turned_stand(hall, names, stand):
    """Tell a stand of the hall under other names, the stones in their new order."""
    turn, rooms, places = stand
    place_of = {become(names, stone): become(names, place) for stone, place in zip(hall.stones(), places)}
    return turn, tuple([become(names, room) for room in rooms]), tuple([place_of[stone] for stone in sorted(place_of)])


def turned_way(names, way):
    """Tell a way under other names; what is no deed stays as it is."""
    return tuple([turned_deed(names, deed) for deed in way])


def turned_deed(names, deed):
    """Tell a deed, of anything, under other names."""
    if not is_deed(deed) or deed == WAIT:
        return deed
    return deed[0], become(names, deed[1])


def turned_goal(names, goal):
    """Tell a goal under other names, its wishes in their order."""
    # The word of a wish may be a name of the hall, too, and stays all the same.
    return tuple([wish[:1] + tuple([become(names, part) for part in wish[1:]]) for wish in goal])


def is_turning(hall, thing):
    """Tell of anything whether it is a turning of the hall."""
    names = hall.rooms() + hall.doors() + hall.stones()
    if not isinstance(thing, tuple) or not all([is_exchange(names, pair) for pair in thing]):
        return False
    changed = [name for name, _ in thing]
    if any([changed[at] >= changed[at + 1] for at in range(len(changed) - 1)]):
        return False
    # A name left or come to twice makes another hall, so nothing more need be asked of the names.
    return turned(hall, table_of(thing)) == hall


def is_exchange(names, thing):
    """Tell of anything whether it is a tuple of two unlike names of these."""
    return (isinstance(thing, tuple) and len(thing) == 2 and thing[0] in names and thing[1] in names
            and thing[0] != thing[1])


def table_of(turning):
    """Tell what becomes of the names that a turning changes, a dict."""
    return {name: other for name, other in turning}


def turnings(hall, some, *, most=MOST_TURNINGS):
    """Tell all turnings that come of some, the empty one among them, rising."""
    need_turnings(hall, some, ())
    return all_turnings(some, most)


def need_turnings(hall, some, goal):
    """Refuse things, of anything, that aren't all turnings of the hall which turn a goal's wishes into the same."""
    for at, thing in enumerate(some):
        if not is_turning(hall, thing) or set(turned_goal(table_of(thing), goal)) != set(goal):
            raise NoTurning(at)


def all_turnings(some, most):
    """Tell all turnings that come of some of which it is known that they are turnings, rising."""
    kept = []
    found = closed(kept, most)
    for turning in some:
        # What comes of the others adds nothing, so few are kept and the way to all is short.
        if turning not in found:
            kept.append(turning)
            found = closed(kept, most)
    return sorted(found)


def closed(some, most):
    """Tell all turnings that come of some, refused where they are too many."""
    found = [()]
    seen = {(): True}
    at = 0
    while at < len(found):
        for turning in some:
            both = behind_one_another(found[at], turning)
            if both not in seen:
                seen[both] = True
                found.append(both)
        if len(found) > most:
            raise TooMany(most)
        at += 1
    return found


def behind_one_another(one, other):
    """Tell the turning that two come to, the one done first."""
    first = table_of(one)
    second = table_of(other)
    both = {name: become(second, become(first, name)) for name, _ in one + other}
    return tuple([(name, both[name]) for name in sorted(both) if both[name] != name])
