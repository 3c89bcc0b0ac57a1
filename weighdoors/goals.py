"""Goals: wishes, all of which are to be met."""

from weighdoors.bounds import MOST_HEFT
from weighdoors.errors import NoGoal
from weighdoors.names import is_name, is_whole
from weighdoors.stands import bears, lacks

MOST_WISHES = 8


def need_goal(hall, thing):
    """Refuse what, of anything, is no goal of the hall."""
    if not isinstance(thing, tuple) or len(thing) > MOST_WISHES:
        raise NoGoal(None)
    for at, wish in enumerate(thing):
        if not is_wish(hall, wish):
            raise NoGoal(at)


def is_wish(hall, thing):
    """Tell of anything whether it is a wish by its word, names and number."""
    if not isinstance(thing, tuple):
        return False
    if len(thing) == 2:
        word, door = thing
        return word == "open" and is_name(door)
    return len(thing) == 3 and is_wish_of_two(hall, thing)


def is_wish_of_two(hall, wish):
    """Tell of a tuple of three whether it is a wish: a word and two things of its sorts."""
    word, one, other = wish
    # Sought in lists: what is handed in may be no key of a dict.
    if word == "at":
        return one in hall.walkers() and other in hall.rooms()
    if word == "lies":
        return one in hall.stones() and other in hall.rooms()
    if word == "held":
        return one in hall.stones() and other in hall.walkers()
    if word == "bears":
        return one in hall.rooms() and is_whole(other) and 0 <= other <= MOST_HEFT
    return False


def met(hall, stand, goal):
    """Tell whether each wish of a goal is met at a stand."""
    return all([is_wish_met(hall, stand, wish) for wish in goal])


def is_wish_met(hall, stand, wish):
    """Tell whether a wish is met at a stand."""
    _, rooms, places = stand
    if wish[0] == "open":
        return wish[1] in hall.doors() and not lacks(hall, stand, wish[1])
    word, one, other = wish
    if word == "at":
        return rooms[hall.walkers().index(one)] == other
    if word == "bears":
        return bears(hall, stand, one) >= other
    # Lies and held ask the same: no walker has a room's name.
    return places[hall.stones().index(one)] == other
